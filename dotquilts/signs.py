"""The signs of texts, their kinds, and how many bits pieces of them have."""

# A sign is worth its place here.
SIGNS = "0123456789ABCDEFGHIJKLMNOPQRSTUVWXYZ .,:-abcdefghijklmnopqrstuvwxyz!?'()/+*=;_#@&<>[]{}|~^$\n"

# These have an item for each kind from 1 on, and none that counts for 0.
KIND_SIGNS = (0, 10, 41, 92)
GROUPS = (1, 3, 2, 1)
# Behind the kind, each by the number of signs that are written as one number: its bits.
NUMBER_BITS = ((0, 0), (0, 4, 7, 10), (0, 6, 11), (0, 7))

KINDS = (1, 2, 3)
KIND_BITS = 2
MANY_BITS = 5
HEAD_BITS = KIND_BITS + MANY_BITS
MOST_SIGNS = 31
# No sign needs fewer bits than this.
LEAST_SIGN_BITS = 3


def bits_needed(kind, many):
    """How many bits a piece with so many signs has."""
    whole, left = divmod(many, GROUPS[kind])
    return HEAD_BITS + whole * NUMBER_BITS[kind][GROUPS[kind]] + NUMBER_BITS[kind][left]


def sizes_of_pieces(kind):
    """The list of the bits of pieces of a kind with 1 to 31 signs."""
    return [bits_needed(kind, many) for many in range(1, MOST_SIGNS + 1)]


def lowest_kinds(text):
    """For each sign of a text the lowest kind that has it; all greater ones have it, too."""
    digits = SIGNS[:KIND_SIGNS[1]]
    capitals = SIGNS[:KIND_SIGNS[2]]
    return [1 if sign in digits else 2 if sign in capitals else 3 for sign in text]
