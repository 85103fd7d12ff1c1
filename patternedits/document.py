"""The document: its row of pieces, its changes, and the author, time and tracking of the moment."""

from patternedits.characters import PARAGRAPH_END
from patternedits.pieces import PLAIN_LOOK, Piece

KIND_PUT = 1
KIND_CUT = 2
KIND_PAINT = 3


class Change:

    # How many pieces of the row bear it is kept, for the row may become far longer than what is shown of it.
    def __init__(self, author, time, kind, bearer_count):
        self.author = author
        self.time = time
        self.kind = kind
        self.bearer_count = bearer_count


# put, cut and paint take for granted that their places are within the text:
# whoever calls them has looked at the refusals.
class Document:

    def __init__(self):
        self.last_end = Piece(PARAGRAPH_END, PLAIN_LOOK, [])
        # The shown pieces in the row's order, so that a place is an index.
        self.shown = [self.last_end]
        self.changes = []
        self.author = 1
        self.time = 0
        self.tracking = False

    def put(self, place, signs):
        insertions = [self.coming_change()] if self.tracking else []
        behind = self.shown[place]
        look_of_text = self.look_for_text(place)
        # The walk to a paragraph's end may be long, so it is only made for signs that need it.
        look_of_ends = self.look_for_ends(place) if PARAGRAPH_END in signs else PLAIN_LOOK
        for count, sign in enumerate(signs):
            look = look_of_ends if sign == PARAGRAPH_END else look_of_text
            piece = Piece(sign, look, list(insertions))
            piece.enter_row_before(behind)
            self.shown.insert(place + count, piece)
        return self.enter_change(KIND_PUT, len(signs) if self.tracking else 0)

    def cut(self, begin, end):
        change = self.coming_change()
        bearer_count = 0
        pieces = self.shown[begin:end]
        for piece in pieces:
            self.shown.pop(begin)
            if self.is_changed_at_once(piece):
                piece.leave_row()
                self.take_bearer_from(piece.borne_changes())
            else:
                piece.deletions = [change]
                bearer_count += 1
        return self.enter_change(KIND_CUT, bearer_count)

    def paint(self, begin, end, which, value):
        entry = (self.coming_change(), which, value)
        bearer_count = 0
        for piece in self.shown[begin:end]:
            if self.is_changed_at_once(piece):
                self.take_bearer_from(piece.paint_at_once(which, value))
            elif piece.shown_look[which] != value:
                piece.paint_pending(entry)
                bearer_count += 1
        return self.enter_change(KIND_PAINT, bearer_count)

    def row_pieces(self):
        found = [self.last_end.following]
        while found[-1] != self.last_end:
            found.append(found[-1].following)
        return found

    def signs_between(self, begin, end):
        return [piece.sign for piece in self.shown[begin:end]]

    def coming_change(self):
        return len(self.changes) + 1

    # Only pieces that the command itself dealt with can bear its change, so the command knows how many do.
    def enter_change(self, kind, bearer_count):
        if bearer_count == 0:
            return 0
        self.changes.append(Change(self.author, self.time, kind, bearer_count))
        return len(self.changes)

    def take_bearer_from(self, numbers):
        for number in numbers:
            change = self.changes[number - 1]
            change.bearer_count -= 1

    def is_changed_at_once(self, piece):
        return not self.tracking or self.is_own(piece)

    def is_own(self, piece):
        if not piece.insertions:
            return False
        change = self.changes[piece.insertions[-1] - 1]
        return change.author == self.author

    def look_for_text(self, place):
        if place == 0 or self.shown[place - 1].sign == PARAGRAPH_END:
            return PLAIN_LOOK
        return self.shown[place - 1].shown_look

    # The last end has the sign that is looked for, so the walk ends there at the latest.
    def look_for_ends(self, place):
        while self.shown[place].sign != PARAGRAPH_END:
            place += 1
        return self.shown[place].shown_look
