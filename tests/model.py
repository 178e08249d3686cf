"""A second reading of the document, made of sets and counted out, to compare the program with.

A tree is a condition as a tuple of its word and what it is made of: ("not", ("reaches", "a")). A plain shape is a
tuple (level, frozenset of links, dict of marks).
"""

import itertools

from raggedtotals.conditions import All, Any, If, Marked, Not, One, Reaches, Via, Way
from raggedtotals.shapes import Shape

KINDS = {"reaches": Reaches, "way": Way, "via": Via, "marked": Marked, "not": Not, "all": All, "any": Any, "one": One,
         "if": If}
ATOMS = ("reaches", "way", "via", "marked")


def condition_of(tree):
    """The condition of a tree."""
    word, *items = tree
    return KINDS[word](*[item if word in ATOMS else condition_of(item) for item in items])


def text_of(tree):
    """The text of the condition of a tree."""
    word, *items = tree
    return word + "(" + ", ".join(item if word in ATOMS else text_of(item) for item in items) + ")"


def parts_of(tree):
    """The number of parts of the condition of a tree."""
    return 1 if tree[0] in ATOMS else 1 + sum(parts_of(item) for item in tree[1:])


def depth_of(tree):
    """The depth of the condition of a tree."""
    return 1 if tree[0] in ATOMS else 1 + max((depth_of(item) for item in tree[1:]), default=0)


def levels_of(tree):
    """The set of the levels that the condition of a tree names."""
    if tree[0] == "marked":
        return {tree[1]}
    return set(tree[1:]) if tree[0] in ATOMS else {level for item in tree[1:] for level in levels_of(item)}


def above(links, level):
    """The set of the levels that can be reached from a level."""
    found = {level}
    for _ in links:
        found |= {upper for lower, upper in links if lower in found}
    return found


def part_of(plain, level):
    """The part of a plain shape at one of its levels."""
    _, links, marks = plain
    levels = above(links, level)
    return (
        level, frozenset(link for link in links if link[0] in levels),
        {place: marks[place] for place in marks if place in levels},
    )


def truth(tree, plain):
    """Whether the condition of a tree is true for a plain shape."""
    level, links, marks = plain
    word, *items = tree
    if word == "reaches":
        return items[0] in above(links, level)
    if word == "way":
        return set(zip([level] + items, items)) <= set(links)
    if word == "via":
        return items[0] in above(links, level) and items[1] in above(links, items[0])
    if word == "marked":
        return marks.get(items[0]) == items[1]
    answers = [truth(item, plain) for item in items]
    if word == "not":
        return not answers[0]
    if word == "if":
        return answers[1] if answers[0] else True
    return {"all": answers.count(False) == 0, "any": answers.count(True) > 0, "one": answers.count(True) == 1}[word]


def text_of_plain(plain):
    """The text of a plain shape."""
    level, links, marks = plain
    words = [f"{lower}>{upper}" for lower, upper in sorted(links)]
    return " ".join([level] + words + [f"{place}={marks[place]}" for place in sorted(marks)])


def shape_of(plain):
    """The shape of a plain shape."""
    return Shape(plain[0], *plain[1], marks=tuple(plain[2].items()))


def plain_shapes(level, links, marks):
    """All plain shapes of a level that fit links and marks (a dict), counted out of all sets of links and marks."""
    near = sorted(link for link in links if link[0] in above(links, level))
    out = []
    for size in range(len(near) + 1):
        for chosen in itertools.combinations(near, size):
            levels = above(chosen, level)
            if all(lower in levels for lower, _ in chosen):
                marked = sorted(levels & set(marks))
                for signs in itertools.product(*[marks[place] for place in marked]):
                    out.append((level, frozenset(chosen), dict(zip(marked, signs))))
    return out


def keeps(plain, rules, left_out=None):
    """Whether all parts of a plain shape, but the one at the level that is left out, keep the rules (level, tree)."""
    return all(
        truth(tree, part_of(plain, level))
        for level in above(plain[1], plain[0]) if level != left_out for place, tree in rules if place == level
    )


def counted_out(base, links, marks, rules):
    """For each level the list of the texts of its candidates and the list of those of its allowed shapes."""
    out = {}
    for level in above(links, base):
        plains = plain_shapes(level, links, marks)
        near = [plain for plain in plains if keeps(plain, rules, left_out=level)]
        out[level] = (
            sorted(text_of_plain(plain) for plain in near),
            sorted(text_of_plain(plain) for plain in plains if keeps(plain, rules)),
        )
    return out


def random_tree(chance, levels, marks, depth):
    """A tree of at most this depth that names some of these levels and marks."""
    word = chance.choice(ATOMS if depth < 2 else tuple(KINDS))
    if word == "reaches":
        return (word, chance.choice(levels))
    if word == "way":
        return (word, *[chance.choice(levels) for _ in range(chance.randint(1, 3))])
    if word == "via":
        return (word, chance.choice(levels), chance.choice(levels))
    if word == "marked":
        return (word, chance.choice(levels), chance.choice(marks))
    count = {"not": 1, "if": 2}.get(word, chance.randint(0, 3))
    return (word, *[random_tree(chance, levels, marks, depth - 1) for _ in range(count)])


def random_links(chance, levels, count):
    """At most so many links from earlier to later ones of these levels, all of which the first one leads to."""
    pairs = [pair for pair in itertools.combinations(levels, 2)]
    chosen = chance.sample(pairs, min(count, len(pairs)))
    found = above(chosen, levels[0])
    links = [link for link in chosen if link[0] in found]
    chance.shuffle(links)
    return tuple(links)
