"""Trees: whether one can go on whatever comes, with answers, or with pieces that are too much."""

from shaftfall.lasting import LastingSearch


def sure(shaft, pieces, turns):
    """Whether one can answer so many pieces, whichever come."""
    search = LastingSearch(shaft, pieces)
    return search.climbed((shaft, search.all_pieces()), turns) >= turns


def lasts(shaft, pieces, most):
    """The greatest number of turns up to most for which one is sure."""
    search = LastingSearch(shaft, pieces)
    return search.lasts((shaft, search.all_pieces()), most)


def answers(shaft, pieces, turns):
    """A tree of drops that answer each piece, for so many turns; None, if there is none."""
    search = LastingSearch(shaft, pieces)
    state = (shaft, search.all_pieces())
    if search.climbed(state, turns) < turns:
        return None
    return tree_of_answers(search, state, turns)


def tree_of_answers(search, state, turns):
    """The tree of what the search found to answer."""
    layers = []
    states = [state]
    for left in reversed(range(turns)):
        replies = {each: search.replies_in(each, left + 1) for each in states}
        layers.append(replies)
        states = list({behind: True for each in states for where, behind in replies[each]})
    trees = {each: () for each in states}
    # Equal states with as many turns left share their tree, which written out may be far too large.
    for replies in reversed(layers):
        trees = {each: tuple([(where, trees[behind]) for where, behind in found]) for each, found in replies.items()}
    return trees[state]


def troubles(shaft, pieces, turns):
    """A tree of pieces that are too much within so many turns, whatever one answers; None, if there is none."""
    search = LastingSearch(shaft, pieces)
    state = (shaft, search.all_pieces())
    if search.climbed(state, turns) >= turns:
        return None
    return tree_of_troubles(search, state)


def tree_of_troubles(search, state):
    """The tree of what the search found to be too much."""
    drops = {}
    newest = [state]
    while newest:
        now = newest.pop()
        if now not in drops:
            drops[now] = sorted(search.options(now, search.lost[now][1]))
            newest.extend([behind for where, behind in drops[now]])
    trees = {}
    # Behind each drop fewer turns are too much, so those trees are there already.
    for now in sorted(drops, key=lambda each: search.lost[each][0]):
        trees[now] = (search.lost[now][1], tuple([(where, trees[behind]) for where, behind in drops[now]]))
    return trees[state]
