"""Dotquilts: squares of dots that carry texts."""
