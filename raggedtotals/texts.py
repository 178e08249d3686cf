"""Reading the texts of conditions."""

from raggedtotals.conditions import All, Any, If, Marked, Not, One, Reaches, Via, Way
from raggedtotals.errors import InvalidName, InvalidText, TooMany
from raggedtotals.limits import MAX_DEPTH

_BETWEEN = ", "


def atom_of(word, names):
    """The atom with this word and these names; None if there is none of this form."""
    if word == Reaches.WORD and len(names) == 1:
        return Reaches(*names)
    if word == Way.WORD:
        return Way(*names)
    if word == Via.WORD and len(names) == 2:
        return Via(*names)
    if word == Marked.WORD and len(names) == 2:
        return Marked(*names)
    return None


def compound_of(word, conditions):
    """The condition with this word that is made of these; None if there is none of this form."""
    if word == Not.WORD and len(conditions) == 1:
        return Not(*conditions)
    if word == All.WORD:
        return All(*conditions)
    if word == Any.WORD:
        return Any(*conditions)
    if word == One.WORD:
        return One(*conditions)
    if word == If.WORD and len(conditions) == 2:
        return If(*conditions)
    return None


def names_at(text, start):
    """The names from this place on to the next closing bracket, and the place of the bracket."""
    end = text.find(")", start)
    if end < 0:
        raise InvalidText(text)
    return text[start:end].split(_BETWEEN), end


def conditions_at(text, start, room):
    """The conditions from this place on to their closing bracket, and the place of the bracket."""
    conditions = []
    at = start
    while not text.startswith(")", at):
        if conditions:
            if not text.startswith(_BETWEEN, at):
                raise InvalidText(text)
            at = at + len(_BETWEEN)
        condition, at = condition_at(text, at, room)
        conditions.append(condition)
    return conditions, at


def condition_at(text, start, room):
    """The condition that begins at this place and is at most as deep as there is room, and the place behind it."""
    bracket = text.find("(", start)
    # Without this test a text with many open brackets would lead into too many nested calls.
    if bracket < 0 or room < 1:
        raise InvalidText(text)
    word = text[start:bracket]
    if word in (Reaches.WORD, Way.WORD, Via.WORD, Marked.WORD):
        names, end = names_at(text, bracket + 1)
        condition = atom_of(word, names)
    else:
        conditions, end = conditions_at(text, bracket + 1, room - 1)
        condition = compound_of(word, conditions)
    if condition is None:
        raise InvalidText(text)
    return condition, end + 1


def read_condition(text):
    """The condition with this text."""
    if not isinstance(text, str):
        raise InvalidText(text)
    try:
        condition, end = condition_at(text, 0, MAX_DEPTH)
    except (InvalidName, TooMany):
        raise InvalidText(text) from None
    if end != len(text):
        raise InvalidText(text)
    return condition
