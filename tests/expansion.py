"""Modules put in place, told once more: by the texts of books alone.

What placed tells is held against it."""

import re

KEPT = set("module in out row use end number truth on yes no not and or if before then when held".split())
NAME = re.compile(r"[a-z]+(?:\.[a-z]+)*")


def modules(text):
    """For each name of a module its rows, each as a list of two texts: ahead of and behind its `=`."""
    found, name = {}, None
    for row in text.splitlines():
        if row.startswith("module "):
            name = row.split(" ")[1]
            found[name] = []
        elif row != "end":
            ahead, _, behind = row.partition(" = ")
            found[name].append((ahead.split(" "), behind))
    return found


def parts_in(text):
    """The texts of parts, one behind the other, cut where no bracket stands around."""
    parts, deep = [""], 0
    for sign in text:
        deep += {"(": 1, ")": -1}.get(sign, 0)
        if sign == " " and deep == 0:
            parts.append("")
        else:
            parts[-1] += sign
    return [part for part in parts if part]


def put_ahead(head, text):
    """The text with the head and a point ahead of each name in it."""
    return NAME.sub(lambda found: found[0] if found[0] in KEPT else f"{head}.{found[0]}", text)


def on_in(words):
    return words[words.index("on") + 1] if "on" in words[1:] else None


def rows_of(found, module):
    """All rows of a module as (name, kind, on, part), with those of its uses in their places."""
    rows = []
    for words, behind in found[module]:
        if words[0] == "row":
            rows.append((words[1], words[2], on_in(words), behind))
        if words[0] == "use":
            rows.extend(rows_of_use(found, words, behind))
    return rows


def rows_of_use(found, words, behind):
    on = on_in(words)
    binds = words[1:words.index("on")] if on else words[1:]
    name, _, rest = behind.partition(" ")
    parts, head, rows = parts_in(rest), binds[0], []
    for line, _ in found[name]:
        if line[0] == "in":
            rows.append((f"{head}.{line[1]}", "truth" if line[2] == "truth" else "number", on, parts[len(rows)]))
    for row in rows_of(found, name):
        rows.append((f"{head}.{row[0]}", row[1], f"{head}.{row[2]}" if row[2] else on, put_ahead(head, row[3])))
    outputs = [line[1] for line, _ in found[name] if line[0] == "out"]
    for bind, output in zip(binds, outputs, strict=True):
        kind = [row[1] for row in rows if row[0] == f"{head}.{output}"][0]
        rows.append((bind, kind, on, f"{head}.{output}"))
    return rows


def expanded(text):
    """The text of the sheet that is placed of the book of a text; or the name of the error by which it is refused."""
    found = modules(text)
    main = list(found)[-1]
    rows = rows_of(found, main)
    inputs = [words for words, _ in found[main] if words[0] == "in"]
    names = [words[1] for words in inputs] + [row[0] for row in rows]
    if len(rows) > 80 or max(name.count(".") for name in names) > 3:
        return "TooMany"
    if len(set(names)) < len(names):
        return "NoSheet"
    ends = [" ".join(words) for words, _ in found[main] if words[0] in ("in", "out")]
    lines = []
    for name, kind, on, part in rows:
        lines.append(f"row {name} {kind} on {on} = {part}" if on else f"row {name} {kind} = {part}")
    return "\n".join([f"module {main}"] + ends + lines + ["end", ""])
