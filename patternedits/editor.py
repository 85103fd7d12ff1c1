"""What one list of calls works on: a document, and what is set for searching in it."""

from patternedits.document import Document

NO_PROPERTY = -1


class Editor:

    def __init__(self):
        self.document = Document()
        self.pattern = None
        self.replacement = []
        self.folding = False
        self.asked_property = NO_PROPERTY
        self.asked_value = 0
