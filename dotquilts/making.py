"""Making right rows from data words."""


def check_factor(field, many, start):
    """The words behind the first one, which is 1, of the polynomial whose roots are those of the right rows.

    The roots are powers of 2 that follow one another; so each word comes of the one ahead of it as a binomial
    coefficient does of the one ahead of it, where each number n is the power n of 2, less 1.
    """
    found = []
    exponent = 0
    for step in range(many):
        upper = field.two_to(many - step) ^ 1
        lower = field.two_to(step + 1) ^ 1
        exponent += start + step + field.exponents[upper] - field.exponents[lower]
        found.append(field.two_to(exponent))
    return found


def next_rest(field, factor, rest, word):
    """The remainder by the polynomial after one more word, from the remainder ahead of it."""
    share = field.multiple(factor, rest[0] ^ word)
    return [one ^ other for one, other in zip(rest[1:] + [0], share)]


def with_checks(field, many, start, words):
    """The right row with these data words, a list."""
    factor = check_factor(field, many, start)
    rest = [0] * many
    for word in words:
        rest = next_rest(field, factor, rest, word)
    return list(words) + rest


def unit_rows(field, many, start, data):
    """For each of the data words the right row in which it is 1 and the other ones are 0."""
    factor = check_factor(field, many, start)
    rests = [factor]
    for _ in range(data - 1):
        rests.append(next_rest(field, factor, rests[-1], 0))
    rests.reverse()
    return [[0] * at + [1] + [0] * (data - 1 - at) + rest for at, rest in enumerate(rests)]


def unit_rows_within(field, many, start, length, places):
    """For each of the places but the last ones, as many as there are check words, a right row of this length.

    It is told by its words at the places, and is 0 at all others; it is 1 at its own place, and 0 at the others but
    the last ones. So it has many + 1 words that may not be 0, and there is just one such row: at each place the word
    is 1 by the product of the sums of its power of 2 with those of all others, but for the start.
    """
    exponents = field.exponents
    powers = {place: field.two_to(length - 1 - place) for place in places}
    own = places[:len(places) - many]
    last = places[len(places) - many:]
    shares = {place: start * (length - 1 - place) for place in places}
    for place in last:
        shares[place] += sum([exponents[powers[place] ^ powers[other]] for other in last if other != place])
    found = []
    for at, place in enumerate(own):
        steps = [exponents[powers[place] ^ powers[other]] for other in last]
        whole = shares[place] + sum(steps)
        words = [field.two_to(whole - shares[other] - step) for other, step in zip(last, steps)]
        found.append([0] * at + [1] + [0] * (len(own) - 1 - at) + words)
    return found
