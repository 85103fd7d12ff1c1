"""The searched text: at which positions its signs, its words and its looks stand."""

from patternedits.characters import PARAGRAPH_END, is_word_sign, other_case
from patternedits.positions import moved_on, position_alone, positions_to, without


class SearchedText:

    # The last end is shown, but not searched.
    def __init__(self, shown):
        self.searched_pieces = shown[:-1]
        self.positions_by_sign = {}
        for position, piece in enumerate(self.searched_pieces):
            earlier = self.positions_by_sign.get(piece.sign, 0)
            self.positions_by_sign[piece.sign] = earlier | position_alone(position)

    def positions_of(self, sign):
        return self.positions_by_sign.get(sign, 0)

    def all_positions(self):
        return positions_to(len(self.searched_pieces) - 1)

    def positions_that_fit(self, unit, folding):
        listed = 0
        for stretch in unit.stretches:
            for sign in range(stretch[0], stretch[1] + 1):
                listed |= self.positions_of(sign)
                if folding:
                    listed |= self.positions_of(other_case(sign))
        if not unit.denied:
            return listed
        return without(self.all_positions(), listed | self.positions_of(PARAGRAPH_END))

    def positions_that_show(self, which, value):
        showing = 0
        for position, piece in enumerate(self.searched_pieces):
            if piece.shown_look[which] == value:
                showing |= position_alone(position)
        return showing

    def word_positions(self):
        words = 0
        for sign in self.positions_by_sign:
            if is_word_sign(sign):
                words |= self.positions_of(sign)
        return words

    def word_beginnings(self):
        words = self.word_positions()
        return without(words, moved_on(words, 1))

    def word_ends(self):
        words = self.word_positions()
        return without(moved_on(words, 1), words)
