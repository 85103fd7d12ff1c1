"""The document: its row of pieces, its changes, and the author, time and tracking of the moment."""

from patternedits.characters import PARAGRAPH_END
from patternedits.pieces import PLAIN_LOOK, Piece

KIND_PUT = 1
KIND_CUT = 2
KIND_PAINT = 3


class Change:

    def __init__(self, author, time, kind):
        self.author = author
        self.time = time
        self.kind = kind


# put, cut and paint take for granted that their places are within the text:
# whoever calls them has looked at the refusals.
class Document:

    def __init__(self):
        self.last_end = Piece(PARAGRAPH_END, PLAIN_LOOK, [])
        # The shown pieces in the row's order, so that a place is an index.
        self.shown = [self.last_end]
        self.changes = []
        self.author = 1
        self.time = 0
        self.tracking = False

    def put(self, place, signs):
        insertions = [self.coming_change()] if self.tracking else []
        look_of_text = self.look_for_text(place)
        look_of_ends = self.look_for_ends(place)
        new = []
        for sign in signs:
            look = look_of_ends if sign == PARAGRAPH_END else look_of_text
            piece = Piece(sign, look, list(insertions))
            piece.enter_row_before(self.shown[place])
            new.append(piece)
        self.shown = self.shown[:place] + new + self.shown[place:]
        return self.enter_change(KIND_PUT, self.tracking)

    def cut(self, begin, end):
        change = self.coming_change()
        borne = False
        for piece in self.shown[begin:end]:
            if self.is_changed_at_once(piece):
                piece.leave_row()
            else:
                piece.deletions = [change]
                borne = True
        self.shown = self.shown[:begin] + self.shown[end:]
        return self.enter_change(KIND_CUT, borne)

    def paint(self, begin, end, which, value):
        entry = (self.coming_change(), which, value)
        borne = False
        for piece in self.shown[begin:end]:
            if self.is_changed_at_once(piece):
                piece.paint_at_once(which, value)
            elif piece.shown_look[which] != value:
                piece.paint_pending(entry)
                borne = True
        return self.enter_change(KIND_PAINT, borne)

    def coming_change(self):
        return len(self.changes) + 1

    # Only pieces that the command itself dealt with can bear its change, so the command knows whether any does.
    def enter_change(self, kind, borne):
        if not borne:
            return 0
        self.changes.append(Change(self.author, self.time, kind))
        return len(self.changes)

    def is_changed_at_once(self, piece):
        return not self.tracking or self.is_own(piece)

    def is_own(self, piece):
        if not piece.insertions:
            return False
        change = self.changes[piece.insertions[-1] - 1]
        return change.author == self.author

    def look_for_text(self, place):
        if place == 0 or self.shown[place - 1].sign == PARAGRAPH_END:
            return PLAIN_LOOK
        return self.shown[place - 1].shown_look

    # The last end has the sign that is looked for, so the walk ends there at the latest.
    def look_for_ends(self, place):
        while self.shown[place].sign != PARAGRAPH_END:
            place += 1
        return self.shown[place].shown_look
