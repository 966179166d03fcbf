"""What the tests reckon of texts by themselves, from points 16 to 18, without the package."""

SIGNS = ("0123456789" "ABCDEFGHIJKLMNOPQRSTUVWXYZ" " .,:-" "abcdefghijklmnopqrstuvwxyz"
         "!?'()/+*=;_#@&<>[]{}|~^$" "\n")
OF_KIND = {1: SIGNS[:10], 2: SIGNS[:41], 3: SIGNS}


def binary(number, many):
    return format(number, "b").zfill(many)


def numbers_of(kind, part):
    """The tuples of number, its bits and its greatest value, group by group."""
    worth = [SIGNS.index(sign) for sign in part]
    found = []
    if kind == 1:
        for at in range(0, len(part), 3):
            group = part[at:at + 3]
            found.append((int(group), {3: 10, 2: 7, 1: 4}[len(group)]))
    elif kind == 2:
        for at in range(0, len(part), 2):
            if at + 1 < len(part):
                found.append((41 * worth[at] + worth[at + 1], 11))
            else:
                found.append((worth[at], 6))
    else:
        found = [(one, 7) for one in worth]
    return found


def piece_text(kind, part):
    """The bits of a piece as a text of 0 and 1."""
    return binary(kind, 2) + binary(len(part), 5) + "".join(binary(*pair) for pair in numbers_of(kind, part))


def bits_of(pieces):
    return [int(bit) for piece in pieces for bit in piece_text(*piece)]


def size_of(kind, many):
    return len(piece_text(kind, "0" * many))


def all_lists(text):
    """All lists of pieces that come to a text."""
    if text == "":
        return [[]]
    found = []
    for many in range(1, min(len(text), 31) + 1):
        for kind in (1, 2, 3):
            if all(sign in OF_KIND[kind] for sign in text[:many]):
                found += [[(kind, text[:many])] + rest for rest in all_lists(text[many:])]
    return found


def rank(pieces):
    """Few bits first, then piece by piece by the kind and the number of signs."""
    return sum(size_of(kind, len(part)) for kind, part in pieces), [(kind, len(part)) for kind, part in pieces]


SIZES = {(kind, many): size_of(kind, many) for kind in (1, 2, 3) for many in range(1, 32)}


def best(text):
    """The tuple of the fewest bits and the first such list, as kinds and numbers of signs."""
    behind = {len(text): (0, [])}
    for at in range(len(text) - 1, -1, -1):
        found = []
        for kind in (1, 2, 3):
            for many in range(1, 32):
                if at + many > len(text) or text[at + many - 1] not in OF_KIND[kind]:
                    break
                bits, rest = behind[at + many]
                found.append((SIZES[kind, many] + bits, [(kind, many)] + rest))
        behind[at] = min(found)
    return behind[0]


def best_pieces(text):
    found, at = [], 0
    for kind, many in best(text)[1]:
        found.append((kind, text[at:at + many]))
        at += many
    return found


def ways(text):
    """The dict from numbers of bits to how many lists of pieces have so many."""
    behind = {len(text): {0: 1}}
    for at in range(len(text) - 1, -1, -1):
        counts = {}
        for kind in (1, 2, 3):
            for many in range(1, 32):
                if at + many > len(text) or text[at + many - 1] not in OF_KIND[kind]:
                    break
                for bits, lists in behind[at + many].items():
                    total = bits + SIZES[kind, many]
                    counts[total] = counts.get(total, 0) + lists
        behind[at] = counts
    return behind[0]


class Refused(Exception):
    """A row of bits that cannot be read: the place and the reason."""


def read(bits):
    """What text_of is to tell of a row of bits; Refused(at, why) otherwise."""
    row = "".join(str(bit) for bit in bits)
    at, pieces = 0, []
    while len(row) - at >= 2:
        if row[at:at + 2] == "00":
            return "".join(part for _, part in pieces), pieces, at + 2
        piece = read_piece(row, at)
        pieces.append(piece)
        at += len(piece_text(*piece))
    return "".join(part for _, part in pieces), pieces, at


def read_piece(row, at):
    kind = int(row[at:at + 2], 2)
    if len(row) < at + 7:
        raise Refused(at, "short")
    many = int(row[at + 2:at + 7], 2)
    if many == 0:
        raise Refused(at, "count")
    if len(row) < at + SIZES[kind, many]:
        raise Refused(at, "short")
    place, part = at + 7, ""
    while len(part) < many:
        left = many - len(part)
        if kind == 1:
            group = min(left, 3)
            bits, most = {3: (10, 999), 2: (7, 99), 1: (4, 9)}[group]
        elif kind == 2:
            group = min(left, 2)
            bits, most = {2: (11, 1680), 1: (6, 40)}[group]
        else:
            group, bits, most = 1, 7, 91
        number = int(row[place:place + bits], 2)
        if number > most:
            raise Refused(at, "value")
        if kind == 1:
            part += str(number).zfill(group)
        elif group == 2:
            part += SIGNS[number // 41] + SIGNS[number % 41]
        else:
            part += SIGNS[number]
        place += bits
    return kind, part
