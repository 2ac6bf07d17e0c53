"""Lasting: a search for how many pieces one can surely answer, whichever come.

A state is a pair of a shaft and a tuple of the numbers of the pieces that can come next.
"""

from shaftfall.falling import looks_of, outcomes
from shaftfall.pieces import greatest_x
from shaftfall.shafts import heights, width_of

# What is hoped of a state ahead of all: no turns, so no replies.
NOTHING = (0, ())


class Asking:
    """A question on its way: whether one can answer so many turns in a state, piece by piece and drop by drop."""

    def __init__(self, state, turns, mark):
        self.state = state
        self.turns = turns
        # How many hopes there were ahead of this one.
        self.mark = mark
        # For each piece for which a good drop was found a pair of it and the state behind it.
        self.replies = []
        self.begin_piece()

    def begin_piece(self):
        """Go on to the next piece, for which no drop was tried yet."""
        # The drops that are not known to be lost, the next one to try last; None until they are needed.
        self.untried = None
        # The most turns of those for which its drops were found lost.
        self.longest = 0

    def next_piece(self):
        """The number of the piece that is answered next."""
        return self.state[1][len(self.replies)]

    def is_answered(self):
        """Whether there is a good drop for each piece."""
        return len(self.replies) == len(self.state[1])


class LastingSearch:
    """A search for replies to whatever comes, in shafts of one size, which remembers what it found."""

    def __init__(self, shaft, pieces, in_bags=False):
        self.in_bags = in_bags
        self.looks = [looks_of(piece) for piece in pieces]
        self.rise = greatest_rise(self.looks, shaft)
        # For lost states a pair of a number of turns that one can not answer, and the piece that shows it.
        self.lost = {}
        self.forget_hopes()

    def forget_hopes(self):
        """Just what is lost stays known."""
        # For states a pair of the turns that one can answer, and the replies. A state is hoped for as soon as it is
        # asked about: who comes back to it with fewer turns to go can go on as before.
        self.hoped = {}
        # All hopes in order, each as a pair of the state and what was hoped of it ahead.
        self.hopes = []
        # For states whether something rests on what is hoped of them.
        self.needed = {}
        # Whether no drop was found good for lack of turns or for the room above; then one can go on for ever.
        self.is_endless = True

    def all_pieces(self):
        """The numbers of all pieces."""
        return tuple(range(len(self.looks)))

    def coming_behind(self, coming, number):
        """The numbers of the pieces that can come behind this one, which is one of those that could come."""
        if not self.in_bags:
            return coming
        left = tuple([each for each in coming if each != number])
        return left if left else self.all_pieces()

    def climbed(self, state, most):
        """A number of turns up to most that one can answer; most itself, if one can answer so many."""
        low = 0
        while low < most:
            # Few turns first, since too many lead far astray; later by leaps, since most may be great.
            turns = min(most, low + 1 + low // 4)
            if not self.holds(state, turns):
                return low
            if self.is_endless:
                return most
            low = turns
        return low

    def lasts(self, state, most):
        """The greatest number of turns up to most that one can answer."""
        low = self.climbed(state, most)
        while low < most and low + 1 < self.lost[state][0]:
            turns = self.lost[state][0] - 1
            if self.holds(state, turns):
                return turns
        return low

    def holds(self, state, turns):
        """Whether one can answer so many turns."""
        self.forget_hopes()
        # A list of questions on their way, and no calls within calls: turns may be many.
        path = [self.asked(state, turns)]
        while path:
            asking = path[-1]
            if asking.is_answered():
                self.hoped[asking.state] = (asking.turns, tuple(asking.replies))
                path.pop()
            elif self.untried_of(asking):
                self.go_on(path, asking)
            else:
                self.give_up(asking)
                path.pop()
        return not self.is_lost(state, turns)

    def asked(self, state, turns):
        """A new question, of which the best is hoped."""
        asking = Asking(state, turns, len(self.hopes))
        self.hopes.append((state, self.hoped.get(state, NOTHING)))
        self.hoped[state] = (turns, ())
        self.needed[state] = False
        return asking

    def untried_of(self, asking):
        """The drops that are still to be tried for the next piece, each with the state behind it."""
        if asking.untried is None:
            # The last one is tried first.
            asking.untried = self.options(asking.state, asking.next_piece())[::-1]
        return asking.untried

    def options(self, state, number):
        """A list of the drops of a piece, each with the state behind it, the most promising first."""
        shaft, coming = state
        later = self.coming_behind(coming, number)
        found = [(pile_of(left), where, left) for where, (left, gone) in outcomes(shaft, self.looks[number])]
        return [(where, (left, later)) for pile, where, left in sorted(found)]

    def go_on(self, path, asking):
        """Take or drop the next reply, or ask about the state behind it, if nothing is known of that."""
        where, behind = asking.untried[-1]
        turns = asking.turns - 1
        if self.is_lost(behind, turns):
            asking.longest = max(asking.longest, self.lost[behind][0])
            asking.untried.pop()
        elif self.is_hoped(behind, turns):
            asking.replies.append((where, behind))
            asking.begin_piece()
        else:
            path.append(self.asked(behind, turns))

    def is_lost(self, state, turns):
        """Whether it is known that one can not answer so many turns."""
        return state in self.lost and self.lost[state][0] <= turns

    def is_hoped(self, state, turns):
        """Whether one can answer so many turns, if all states on the way keep what is hoped of them."""
        if turns > 0 and self.hoped.get(state, NOTHING)[0] >= turns:
            self.needed[state] = True
            return True
        if turns > 0 and not self.is_roomy(state[0], turns):
            return False
        self.is_endless = False
        return True

    def is_roomy(self, shaft, turns):
        """Whether so many pieces, one on top of the other, have room above all full cells."""
        return max(heights(shaft), default=0) + turns * self.rise <= len(shaft)

    def give_up(self, asking):
        """The next piece has no drop that is not lost, so the state is lost."""
        self.lost[asking.state] = (asking.longest + 1, asking.next_piece())
        self.hoped[asking.state] = self.hopes[asking.mark][1]
        # All that was found since may rest on the hope that failed.
        while self.needed[asking.state] and len(self.hopes) > asking.mark:
            state, ahead = self.hopes.pop()
            self.hoped[state] = ahead

    def replies_in(self, state, turns):
        """What one can answer for each piece in a state that lasts so many turns, with the states behind."""
        hoped, replies = self.hoped.get(state, NOTHING)
        if self.is_endless or hoped >= turns:
            return replies
        # The state was found good for the room above, which the most promising drops take least of.
        return tuple([self.options(state, number)[0] for number in state[1]])


def pile_of(shaft):
    """How high the full cells of the shaft lie: at most, and in all columns together."""
    tops = heights(shaft)
    return max(tops, default=0), sum(tops)


def greatest_rise(looks, shaft):
    """By how many rows a piece that is dropped well can at most rise above all full cells."""
    return max([least_rise(faces, shaft) for faces in looks], default=0)


def least_rise(faces, shaft):
    """How many rows the lowest of these faces has that is not too wide; more than the shaft has, if all are."""
    lows = [max([y for x, y in look], default=0) + 1 for times, look in faces if greatest_x(look) < width_of(shaft)]
    return min(lows, default=len(shaft) + 1)
