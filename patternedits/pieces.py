"""The pieces of which a document's row is made."""

PLAIN_LOOK = (0, 0, 0, 0)


# The pieces of a row stand in a ring, in which the first one follows the last end.
# So a piece comes or goes at the same cost wherever it stands, however many are not shown,
# and each one has a neighbour on both sides.
class Piece:

    def __init__(self, sign, own_look, insertions):
        self.sign = sign
        self.own_look = own_look
        # Kept besides the pending looks, for these may be many and the look as shown is asked for often.
        self.shown_look = own_look
        self.insertions = insertions
        self.deletions = []
        # By property, for those of one property go together, and they may be many.
        self.pending_by_property = {}
        self.preceding = self
        self.following = self

    def enter_row_before(self, piece):
        before = piece.preceding
        before.following = self
        self.preceding = before
        self.following = piece
        piece.preceding = self

    def leave_row(self):
        before = self.preceding
        behind = self.following
        before.following = behind
        behind.preceding = before

    # Gives back the changes that the piece bears no longer.
    def paint_at_once(self, which, value):
        gone = []
        if which in self.pending_by_property:
            gone = [entry[0] for entry in self.pending_by_property.pop(which)]
        self.own_look = look_with(self.own_look, which, value)
        self.shown_look = look_with(self.shown_look, which, value)
        return gone

    def paint_pending(self, entry):
        which = entry[1]
        self.pending_by_property.setdefault(which, []).append(entry)
        self.shown_look = look_with(self.shown_look, which, entry[2])

    # Each command gives a piece its change once at most, so no change is here twice.
    def borne_changes(self):
        return self.insertions + self.deletions + [entry[0] for entry in self.pending_looks()]

    # A command adds one entry to a piece at most, so the order of the changes is that in which entries were added.
    def pending_looks(self):
        entries = []
        for entries_of_one in self.pending_by_property.values():
            entries.extend(entries_of_one)
        return sorted(entries)


def look_with(look, which, value):
    return look[:which] + (value,) + look[which + 1:]
