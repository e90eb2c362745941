"""Two theories with rows cards joined to one (points 117 to 120)."""

from onelooker.asrows import Wording
from onelooker.cards import MOST_ROWS, MOST_WORDS
from onelooker.errors import BadCard, TooMany
from onelooker.literals import owner_of
from onelooker.problems import Problem


def _words_of(card):
    """All words of a rows card, ascending."""
    return sorted({text for _, words in card[1] for text in words})


def _new_words(card, letter):
    """A dict from the words of a rows card to their words in the joint card."""
    return {text: f"{letter}{at}" for at, text in enumerate(_words_of(card))}


def joint_card(first, second):
    """The joint card of two rows cards."""
    left, right = _new_words(first, "x"), _new_words(second, "y")
    rows = [(cell, (*[left[text] for text in words], *[right[text] for text in others]))
            for cell, words in first[1] for place, others in second[1] if place == cell]
    if len(rows) == 0:
        raise BadCard(second)
    if len(left) + len(right) > MOST_WORDS:
        raise TooMany("words")
    if len(rows) > MOST_ROWS:
        raise TooMany("rows")
    return ("rows", tuple(sorted(rows)))


def _joint_wording(owner, source, card, letter):
    """The words of one of two joined cards, for literals of the owner that stays."""
    return Wording(owner, [(source, "word", text) for text in _words_of(card)], letter=letter)


def joint_problem(problem, first, second):
    """The problem with two owners joined; the first one stays."""
    cards = [problem.card(first), problem.card(second)]
    for card in cards:
        if card[0] != "rows":
            raise BadCard(card)
    theories = {**problem.theories(), first: joint_card(cards[0], cards[1])}
    del theories[second]
    wordings = {first: _joint_wording(first, first, cards[0], "x"),
                second: _joint_wording(first, second, cards[1], "y")}
    clauses = {}
    for label in problem.labels:
        worded = []
        for literal in problem[label]:
            owner = owner_of(literal)
            wording = wordings.get(owner)
            worded.append(literal if wording is None else wording(literal))
        clauses[label] = tuple(worded)
    return Problem(problem.names, theories, clauses)
