"""What a replacement gives for a match, and putting that in the place of the match."""

from patternedits.replacements import PART_SIGN


# Told without making the signs, which may be far more than are allowed.
def replacement_length(parts, found):
    length = 0
    for part in parts:
        if part[0] == PART_SIGN:
            length += 1
        else:
            stretch = found.stretch_of(part[1])
            length += stretch[1] - stretch[0]
    return length


def replacement_signs(document, parts, found):
    signs = []
    for part in parts:
        if part[0] == PART_SIGN:
            signs.append(part[1])
        else:
            stretch = found.stretch_of(part[1])
            signs.extend(document.signs_between(stretch[0], stretch[1]))
    return signs


# However much a match and its replacement are alike: what is left alone counts on both sides.
def shown_afterwards(document, parts, matches):
    count = len(document.shown)
    for found in matches:
        count += replacement_length(parts, found) - (found.end - found.begin)
    return count


# From the last to the first, so that each match still stands where it was found, with the signs that it had.
# Gives back how many signs were put and how many were cut.
def replace_matches(document, parts, matches):
    put_count = 0
    cut_count = 0
    for found in reversed(matches):
        counts = replace_match(document, found, replacement_signs(document, parts, found))
        put_count += counts[0]
        cut_count += counts[1]
    return (put_count, cut_count)


def replace_match(document, found, new):
    old = document.signs_between(found.begin, found.end)
    alike = alike_from_begin(old, new)
    begin = found.begin + alike
    old = old[alike:]
    new = new[alike:]
    alike = alike_from_end(old, new)
    put_signs = new[:len(new) - alike]
    put_count = len(put_signs)
    cut_count = len(old) - alike
    if put_count > 0:
        document.put(begin, put_signs)
    if cut_count > 0:
        document.cut(begin + put_count, begin + put_count + cut_count)
    return (put_count, cut_count)


def alike_from_begin(old, new):
    count = 0
    while count < min(len(old), len(new)) and old[count] == new[count]:
        count += 1
    return count


def alike_from_end(old, new):
    count = 0
    while count < min(len(old), len(new)) and old[-1 - count] == new[-1 - count]:
        count += 1
    return count
