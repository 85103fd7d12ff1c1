"""Sets of positions, each kept as one whole number: its bit p tells whether the position p is in the set."""

# So one step deals with all positions of a text at once, however long the text is.

NOWHERE = -1


def positions_to(limit):
    return (1 << (limit + 1)) - 1


def position_alone(position):
    return 1 << position


def has_position(positions, position):
    return (positions >> position) & 1 == 1


def without(positions, others):
    return positions ^ (positions & others)


# The positions that lie so many signs before one of these.
def moved_back(positions, count):
    return positions >> count


def moved_on(positions, count):
    return positions << count


def first_from(positions, begin):
    rest = positions >> begin
    if rest == 0:
        return NOWHERE
    # Taking 1 away turns the lowest bit and those below it, and nothing else.
    lowest = without(rest, rest - 1)
    return begin + lowest.bit_length() - 1
