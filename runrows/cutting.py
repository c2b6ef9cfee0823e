"""Texts of parts, cut into words and brackets. What is not of the form is refused as the row 0."""

from runrows.errors import NoText
from runrows.names import KEPT_WORDS, has_letters
from runrows.parts import SIGNS
from runrows.trees import part_of

DEEPEST_BRACKETS = 20
FIGURES = "0123456789"
NUMBER_BEGINS = "-0123456789"
MOST_FIGURES = 3


def need_form(holds):
    if not holds:
        raise NoText(0)


def name_by(item):
    # Whether it is too long is asked when the part or line is made of it: that is another refusal.
    need_form(isinstance(item, str) and item not in KEPT_WORDS)
    need_form(all([has_letters(word) for word in item.split(".")]))
    return item


def is_figures(text):
    return 1 <= len(text) <= MOST_FIGURES and all([sign in FIGURES for sign in text])


def number_by(word):
    figures = word[1:] if word.startswith("-") else word
    need_form(is_figures(figures))
    need_form(word == "0" or not figures.startswith("0"))
    return int(word)


def value_by(item):
    need_form(isinstance(item, str))
    if item in ("yes", "no"):
        return item == "yes"
    return number_by(item)


def first_by(items):
    return value_by(items[0]) if len(items) > 0 else None


# An item is a word, or the told tuple of what stood in brackets.
def told_by(item):
    if isinstance(item, tuple):
        return item
    if item in ("yes", "no") or item[0] in NUMBER_BEGINS:
        return ("given", value_by(item))
    return ("named", name_by(item))


def headed_told(items):
    many = len(items)
    if items[0] == "before":
        need_form(many == 2 or many == 3)
        return ("before", told_by(items[1]), first_by(items[2:]))
    if items[0] == "not":
        need_form(many == 2)
        return ("not", told_by(items[1]))
    need_form(many == 4)
    return ("if", told_by(items[1]), told_by(items[2]), told_by(items[3]))


def middle_told(items):
    many = len(items)
    need_form(many == 3 or many == 4)
    one = told_by(items[0])
    word = items[1]
    if word == "held":
        return ("held", one, name_by(items[2]), first_by(items[3:]))
    need_form(many == 3)
    if word == "when":
        return ("when", one, name_by(items[2]))
    need_form(word == "then" or word in SIGNS)
    return (word, one, told_by(items[2]))


def bracket_told(items):
    if items[0] in ("not", "if", "before"):
        return headed_told(items)
    return middle_told(items)


# Each list in levels holds the items so far of one open bracket; the first one those that stand in none.
def put_word(levels, word):
    bare = word.lstrip("(")
    core = bare.rstrip(")")
    levels.extend([[] for at in range(len(word) - len(bare))])
    need_form(core != "" and len(levels) - 1 <= DEEPEST_BRACKETS)
    levels[-1].append(core)
    for at in range(len(bare) - len(core)):
        need_form(len(levels) > 1)
        items = levels.pop()
        levels[-1].append(bracket_told(items))


def parts_told(words):
    levels = [[]]
    for word in words:
        put_word(levels, word)
    need_form(len(levels) == 1)
    return [told_by(item) for item in levels[0]]


def one_told(words):
    found = parts_told(words)
    need_form(len(found) == 1)
    return found[0]


def part_by(text):
    return part_of(one_told(text.split(" ")))
