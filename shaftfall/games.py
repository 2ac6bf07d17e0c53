"""Games: pieces that are dropped one by one, back and forth."""

from shaftfall.errors import NoBack, NoPiece
from shaftfall.falling import drop, drops_of
from shaftfall.writing import shaft_text

USUAL_WORTHS = (1, 3, 6, 10, 15)


class Game:
    """A game of pieces that are dropped into a shaft."""

    def __init__(self, shaft, pieces, worths=None):
        self.pieces = pieces
        self.worths = USUAL_WORTHS if worths is None else worths
        # The shaft, how many rows went and what they were worth: at first, and behind each drop.
        self.stages = [(shaft, 0, 0)]
        # Triples of the number of a piece, its times and its x; of those taken back the last one is done again first.
        self.done = []
        self.undone = []

    def play(self, number, times=0, x=0):
        """Drop the piece with this number: how many rows went."""
        gone = self.make_move((number, times, x))
        # Not ahead of the drop: if it is refused, all can still be done again.
        self.undone = []
        return gone

    def make_move(self, move):
        """Drop a piece, as the move tells: how many rows went."""
        number, times, x = move
        if not 0 <= number < len(self.pieces):
            raise NoPiece(number)
        shaft, total, worth = self.stages[-1]
        shaft, gone = drop(shaft, self.pieces[number], (times, x))
        self.stages.append((shaft, total + gone, worth + worth_of(self.worths, gone)))
        self.done.append(move)
        return gone

    def back(self):
        """Take the last drop back: the number of its piece."""
        if not self.done:
            raise NoBack("there is no drop to take back")
        move = self.done.pop()
        self.stages.pop()
        self.undone.append(move)
        return move[0]

    def again(self):
        """Do again what was taken back last: the number of its piece."""
        if not self.undone:
            raise NoBack("there is no drop to do again")
        move = self.undone.pop()
        self.make_move(move)
        return move[0]

    def twin(self):
        """A game that is equal and goes by itself."""
        other = Game(self.stages[0][0], self.pieces, self.worths)
        other.stages = list(self.stages)
        other.done = list(self.done)
        other.undone = list(self.undone)
        return other

    def board(self):
        """The shaft now."""
        return self.stages[-1][0]

    def rows(self):
        """How many rows went."""
        return self.stages[-1][1]

    def score(self):
        """What the rows that went were worth."""
        return self.stages[-1][2]

    def counts(self):
        """For each piece how often it was dropped."""
        dropped = [number for number, times, x in self.done]
        return tuple([dropped.count(number) for number in range(len(self.pieces))])

    def is_over(self):
        """Whether no piece has a drop."""
        return not any([drops_of(self.board(), piece) for piece in self.pieces])

    def begun_with(self):
        """The shaft, the pieces and the worths with which the game began."""
        return self.stages[0][0], self.pieces, self.worths

    def __len__(self):
        return len(self.done)

    def __eq__(self, other):
        if not isinstance(other, Game):
            return False
        return self.begun_with() == other.begun_with() and self.done == other.done and self.undone == other.undone

    def __str__(self):
        return str(shaft_text(self.board()))


def worth_of(worths, gone):
    """What it is worth that so many rows go at once."""
    if gone == 0 or not worths:
        return 0
    return worths[min(gone, len(worths)) - 1]
