"""Standing searches: what is looked for in a score that is edited, and what came and went since they began."""

from heardagain.places import places


class Standing:
    """A search with its places now; its events are triples of a version, a word and a move."""

    def __init__(self, score, figure, kind, least):
        self.figure = figure
        self.kind = kind
        self.least = least
        self.found = places(score, figure, kind, least)
        self.events = []

    def go_on(self, score, version):
        """Go on with the score that an edit with this version has made."""
        before = self.found
        self.found = places(score, self.figure, self.kind, self.least)
        self._note("come", version, self.found, before)
        self._note("gone", version, before, self.found)

    def _note(self, word, version, some, others):
        """Note an event for each move of some places that is none of others."""
        moves = {move: True for move, _ in others}
        self.events.extend([(version, word, move) for move, _ in some if move not in moves])
