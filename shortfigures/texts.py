"""Several figures of one ladder, each of which stands for one number."""

from shortfigures.errors import InvalidTexts
from shortfigures.limits import MOST_ROWS
from shortfigures.marks import parts_of
from shortfigures.stretches import numbers_shown


def check_texts(ladder, texts):
    """Raise InvalidTexts unless this is a tuple of at most 12 figures of the ladder."""
    if not isinstance(texts, tuple) or len(texts) > MOST_ROWS:
        raise InvalidTexts(None)
    for place, text in enumerate(texts):
        if parts_of(ladder, text) is None:
            raise InvalidTexts(place)


def ranges_of(ladder, texts):
    """Return the list of the ranges of figures, which are good, or None if one of them is not shown."""
    ranges = []
    for text in texts:
        unit, mark = parts_of(ladder, text)
        ranges.append(numbers_shown(ladder, unit, mark))
    if None in ranges:
        return None
    return ranges
