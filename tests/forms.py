"""The form of texts, told once more by patterns: which row of a text is the first that is not of it."""

import re

KEPT = "module|in|out|row|use|end|number|truth|on|yes|no|not|and|or|if|before|then|when|held"
NAME = rf"(?!(?:{KEPT})(?![a-z.]))[a-z]+(?:\.[a-z]+)*"
NUMBER = r"(?:0|-?[1-9][0-9]{0,2})"
VALUE = rf"(?:yes|no|{NUMBER})"
# A part in brackets that was found to be of the form stands as @ from then on.
PART = rf"(?:@|{VALUE}(?![a-z.])|{NAME})"
BRACKETS = re.compile(
    rf"\((?:not {PART}|if {PART} {PART} {PART}|before {PART}(?: {VALUE})?"
    rf"|{PART} (?:\+|-|\*|=|<|<=|and|or|then) {PART}|{PART} when {NAME}|{PART} held {NAME}(?: {VALUE})?)\)"
)
ON = rf"(?: on {NAME})?"
ROWS = {
    "module": rf"module {NAME}",
    "in": rf"in {NAME} (?:truth|number|{NUMBER}\.\.{NUMBER}){ON}",
    "out": rf"out {NAME}",
    "row": rf"row {NAME} (?:truth|number){ON} = {PART}",
    "use": rf"use {NAME}(?: {NAME})*{ON} = {NAME}(?: {PART})*",
    "end": "end",
}


def is_too_deep(text):
    depth = 0
    for sign in text:
        depth += {"(": 1, ")": -1}.get(sign, 0)
        if depth > 20:
            return True
    return False


def with_brackets_taken(text):
    before = None
    while before != text:
        before, text = text, BRACKETS.sub("@", text)
    return text


def is_part_text(text):
    if "@" in text or is_too_deep(text):
        return False
    return re.fullmatch(PART, with_brackets_taken(text)) is not None


def row_letter(row):
    """The first letter of the word by which the row begins, or nothing, if it is of no form."""
    if "@" in row or is_too_deep(row):
        return ""
    word = row.split(" ")[0]
    fits = word in ROWS and re.fullmatch(ROWS[word], with_brackets_taken(row))
    return word[0] if fits else ""


def first_fault(text):
    """The number of the row that NoText is to tell, or None where the text is of the form."""
    rows = text.split("\n")
    so_far = ""
    for at, row in enumerate(rows[:-1]):
        letter = row_letter(row)
        so_far += letter
        if letter == "" or re.fullmatch("(?:mi*o*[ru]*e)*(?:mi*o*[ru]*)?", so_far) is None:
            return at
    if rows[-1] != "" or not so_far.endswith("e"):
        return len(rows) - 1
    return None
