"""Words, names and values: what is one, and how a value is told."""

LETTERS = "abcdefghijklmnopqrstuvwxyz"
LONGEST_WORD = 8
MOST_WORDS = 4
KEPT_WORDS = (
    "module", "in", "out", "row", "use", "end", "number", "truth", "on", "yes",
    "no", "not", "and", "or", "if", "before", "then", "when", "held",
)
LOWEST = -128
HIGHEST = 127
ROUND = 256


def has_letters(text):
    return len(text) > 0 and all([sign in LETTERS for sign in text])


def has_word_form(text):
    return len(text) <= LONGEST_WORD and has_letters(text)


def is_word(thing):
    return has_word_form(thing) and thing not in KEPT_WORDS


def is_name(thing):
    words = thing.split(".")
    if len(words) == 1:
        return is_word(thing)
    # A point sets a name apart from the kept words, so among several words any may stand.
    return len(words) <= MOST_WORDS and all([has_word_form(word) for word in words])


def is_number(thing):
    # To Python truths are whole numbers, too; here they never stand for them.
    if isinstance(thing, bool) or not isinstance(thing, int):
        return False
    return LOWEST <= thing <= HIGHEST


def is_value(thing):
    return isinstance(thing, bool) or is_number(thing)


def brought(number):
    return (number - LOWEST) % ROUND + LOWEST


def value_kind(value):
    return "truth" if isinstance(value, bool) else "number"


def value_text(value):
    if isinstance(value, bool):
        return "yes" if value else "no"
    return str(value)
