"""Searching for the matches of a pattern."""

from patternedits.editor import NO_PROPERTY
from patternedits.patterns import ITEM_BEGIN, ITEM_CLOSING, ITEM_END, ITEM_OPENING, ITEM_UNIT, MOST_TIMES
from patternedits.positions import NOWHERE, first_from, has_position, moved_back, positions_to, without
from patternedits.searched_text import SearchedText


class Match:

    # The groups are one flat list: the beginning and the end of each.
    def __init__(self, begin, end, groups):
        self.begin = begin
        self.end = end
        self.groups = groups

    # Number 0 is the match itself; a group that there is none of holds nothing.
    def stretch_of(self, number):
        if number == 0:
            return (self.begin, self.end)
        if 2 * number > len(self.groups):
            return (self.begin, self.begin)
        return (self.groups[2 * number - 2], self.groups[2 * number - 1])


# What an item does at each position from which the pattern can go on with it: where it is met to the same position,
# and, as pairs of how many signs and of positions, where it is met to one so much further on.
class Step:

    def __init__(self, staying, moves):
        self.staying = staying
        self.moves = moves

    def beginnings(self):
        found = self.staying
        for move in self.moves:
            found |= move[1]
        return found

    # Where this item takes only what runs allow, and the rest of the pattern, from its end, does so too.
    def beginnings_within(self, runs, rest):
        found = self.staying & rest
        for move in self.moves:
            found |= move[1] & runs[move[0] - 1] & moved_back(rest, move[0])
        return found

    # Staying is asked first, for in a long pattern most items may take nothing.
    def end_from(self, begin):
        if not has_position(self.staying, begin):
            for move in self.moves:
                if has_position(move[1], begin):
                    return begin + move[0]
        return begin


# All matches within one limit. The items are gone through from the last to the first, each for all positions at once,
# so that no position is tried twice, however many ways there are to meet the items.
class Search:

    def __init__(self, editor, limit):
        self.searched = SearchedText(editor.document.shown)
        self.pattern_items = editor.pattern.pattern_items
        self.steps = []
        runs = runs_of(self.positions_asked_for(editor))
        going_on = positions_to(limit)
        as_asked = going_on
        without_length = going_on
        for item in reversed(self.pattern_items):
            step = self.step_of(item, going_on, editor.folding)
            self.steps.append(step)
            going_on = step.beginnings()
            as_asked = step.beginnings_within(runs, as_asked)
            without_length &= step.staying
        self.steps.reverse()
        self.match_beginnings = without(as_asked, without_length)

    def positions_asked_for(self, editor):
        if editor.asked_property == NO_PROPERTY:
            return self.searched.all_positions()
        return self.searched.positions_that_show(editor.asked_property, editor.asked_value)

    def step_of(self, item, following, folding):
        if item.kind == ITEM_UNIT:
            return step_of_unit(item, self.searched.positions_that_fit(item.unit, folding), following)
        if item.kind == ITEM_BEGIN:
            return Step(following & self.searched.word_beginnings(), [])
        if item.kind == ITEM_END:
            return Step(following & self.searched.word_ends(), [])
        return Step(following, [])

    def match_at(self, begin):
        if not has_position(self.match_beginnings, begin):
            return None
        groups = []
        at = begin
        for item, step in zip(self.pattern_items, self.steps):
            at = step.end_from(at)
            if item.kind == ITEM_OPENING or item.kind == ITEM_CLOSING:
                groups.append(at)
        return Match(begin, at, groups)

    def first_match(self, begin):
        found = first_from(self.match_beginnings, begin)
        return None if found == NOWHERE else self.match_at(found)

    def matches_from(self, begin):
        found = []
        current = self.first_match(begin)
        while current is not None:
            found.append(current)
            current = self.first_match(current.end)
        return found


# reaching has for each number of signs the positions from which so many fit, and behind these the pattern can go on:
# a greedy unit takes the greatest number that it can at a position, a sparing one the least.
def step_of_unit(item, fitting, following):
    reaching = [following]
    while len(reaching) <= item.greatest and reaching[-1] != 0:
        reaching.append(fitting & moved_back(reaching[-1], 1))
    counts = list(range(item.least, len(reaching)))
    if item.greedy:
        counts.reverse()
    staying = 0
    moves = []
    taken = 0
    for count in counts:
        chosen = without(reaching[count], taken)
        taken |= chosen
        if count == 0:
            staying = chosen
        elif chosen != 0:
            moves.append((count, chosen))
    return Step(staying, moves)


# For 1 up to the most times that a unit may have: the positions from which so many in a row are among these.
def runs_of(positions):
    runs = [positions]
    while len(runs) < MOST_TIMES:
        runs.append(positions & moved_back(runs[-1], 1))
    return runs
