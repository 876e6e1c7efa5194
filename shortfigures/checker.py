"""Whether a paper shows a claim, for any two values."""

from shortfigures.alike import are_alike, is_steady
from shortfigures.columns import check_column, column
from shortfigures.errors import InputError, NotALadder
from shortfigures.kinds import is_from_zero
from shortfigures.ladders import Ladder
from shortfigures.marks import figure_of, placed
from shortfigures.tells import tells

# How many elements `told` of a ladder has.
MOST_TOLD = 5


def one_ladder(told):
    """Return the ladder of a claim, in a tuple. Raise an InputError if there is none."""
    return (ladder_of(told),)


def two_ladders(told, other_told):
    """Return both ladders of a claim. Raise an InputError if there are none."""
    return ladder_of(told), ladder_of(other_told)


def ladder_and_column(told, texts, total):
    """Return the ladder and the column of a claim. Raise an InputError if there are none."""
    ladder = ladder_of(told)
    check_column(ladder, texts, total)
    return ladder, texts, total


def ladder_of(told):
    """Return the ladder that has this `told`. Raise an InputError if there is none."""
    if not isinstance(told, tuple) or len(told) != MOST_TOLD:
        raise NotALadder(told)
    units, decimals, rounding, carry, least = told
    return Ladder(units, decimals, rounding, carry=carry, least=least)


def shows_alike(paper, ladder, other):
    """Tell whether nothing is needed to show that two ladders are alike."""
    return are_from_zero(paper, 0) and are_alike(ladder, other)


def shows_unlike(paper, ladder, other):
    """Tell whether the paper is a number that two ladders show differently."""
    return is_from_zero(paper) and figure_of(ladder, paper) != figure_of(other, paper)


def shows_steady(paper, ladder):
    """Tell whether nothing is needed to show that a ladder is steady."""
    return are_from_zero(paper, 0) and is_steady(ladder)


def shows_drifting(paper, ladder):
    """Tell whether the paper is a number whose figure has a worth that is shown by another figure."""
    if not is_from_zero(paper):
        return False
    place, mark = placed(ladder, paper)
    return placed(ladder, mark * ladder.steps[place]) != (place, mark)


def shows_telling(paper, ladder, other):
    """Tell whether nothing is needed to show that a ladder tells another one."""
    return are_from_zero(paper, 0) and tells(ladder, other)


def shows_hiding(paper, ladder, other):
    """Tell whether the paper is a pair of numbers that a ladder shows alike, but not so the other one."""
    if not are_from_zero(paper, 2):
        return False
    one, two = paper
    return figure_of(ladder, one) == figure_of(ladder, two) and figure_of(other, one) != figure_of(other, two)


def shows_possible(paper, ladder, texts, total):
    """Tell whether the paper consists of numbers for the rows whose sum is shown by the total."""
    if not are_from_zero(paper, len(texts)):
        return False
    shown = tuple([figure_of(ladder, number) for number in paper])
    return shown == texts and figure_of(ladder, sum(paper)) == total


def shows_impossible(paper, ladder, texts, total):
    """Tell whether nothing is needed to show that there are no numbers for a column."""
    return are_from_zero(paper, 0) and column(ladder, texts, total) is None


def are_from_zero(paper, many):
    """Tell whether a value is a tuple of just so many integers from 0 on."""
    return isinstance(paper, tuple) and len(paper) == many and all([is_from_zero(number) for number in paper])


# For each word, how many elements a claim has, how what it speaks of is read, and what a paper has to do.
FORMS = {
    "alike": (3, two_ladders, shows_alike),
    "unlike": (3, two_ladders, shows_unlike),
    "steady": (2, one_ladder, shows_steady),
    "drifts": (2, one_ladder, shows_drifting),
    "tells": (3, two_ladders, shows_telling),
    "hides": (3, two_ladders, shows_hiding),
    "possible": (4, ladder_and_column, shows_possible),
    "impossible": (4, ladder_and_column, shows_impossible),
}


def holds(claim, paper):
    """Tell whether the first value is a claim and the second one shows it. There is never an error."""
    if not isinstance(claim, tuple) or len(claim) == 0:
        return False
    word, *about = claim
    if not isinstance(word, str) or word not in FORMS:
        return False
    many, read, shows = FORMS[word]
    if len(claim) != many:
        return False
    try:
        things = read(*about)
    except InputError:
        return False
    return shows(paper, *things)
