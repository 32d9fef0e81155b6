"""Going along a row: what reads rules and takes handed pieces asks for one piece after another."""

from mouthrules.errors import Fault


class Along:
    """Goes along a row, which it neither changes nor copies."""

    def __init__(self, row):
        self.pieces = row
        self.at = 0

    def wanted(self):
        """The next piece; Fault where the row is over."""
        if self.at == len(self.pieces):
            raise Fault("ends")
        piece = self.pieces[self.at]
        self.at += 1
        return piece
