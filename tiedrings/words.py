"""Lines of the language: reading them, and writing them again."""

from tiedrings.cards import HOME, MOST
from tiedrings.cardtext import is_number

# Behind the first word of a line stands a word of each kind. NAMES is the row of all names that
# are left, and every other kind in small letters or signs is a word that stands there as it is.
FORMS = {
    "places": ("NAMES",),
    "card": ("NAME", ":", "NAMES"),
    "shut": ("NAME",),
    "reopen": ("NAME",),
    "late": ("NUMBER", "NAME"),
    "undo": (),
    "limit": ("NUMBER",),
    "where": ("NAME",),
    "who": ("END",),
    "judge": (),
    "ends": ("NAME", "keep", "NAMES"),
    "gather": ("END", "keep", "NAMES"),
    "meet": ("NAMES",),
    "pile": ("NAME", "NUMBER"),
}
FIXED = (":", "keep")
NO_NAMES = ("home", "keep", "nobody", "free", "torn")
LETTERS = "abcdefghijklmnopqrstuvwxyz"
DIGITS = "0123456789"
LONGEST = 8


def name_of(names, end):
    """Return the name of the place, or the word for HOME."""
    return "home" if end == HOME else names[end]


def is_name(word):
    """Tell whether the word can be the name of a place."""
    if not 1 <= len(word) <= LONGEST or word in NO_NAMES:
        return False
    return word[0] in LETTERS and all([sign in LETTERS or sign in DIGITS for sign in word])


def fits_kind(kind, part):
    """Tell whether the word, or the row of words, is of this kind."""
    if kind == "NAMES":
        return all([is_name(word) for word in part])
    if kind == "NUMBER":
        return is_number(part)
    if kind == "END" and part == "home":
        return True
    return part == kind if kind in FIXED else is_name(part)


def parts_of(form, words):
    """Return the words, those in the row of names at the end of the form as one list."""
    if form[-1:] != ("NAMES",):
        return words
    alone = len(form) - 1
    return words[:alone] + [words[alone:]]


def are_enough(head, names):
    """Tell whether a line with this first word can have the row of names."""
    if head == "places":
        return 1 <= len(names) <= MOST and len(set(names)) == len(names)
    return head != "meet" or len(names) > 0


def read_form(head, form, words):
    """Return what the words tell by the form, behind the first word; None if they do not fit."""
    parts = parts_of(form, words)
    if len(parts) != len(form):
        return None
    if not all([fits_kind(kind, part) for kind, part in zip(form, parts)]):
        return None
    if form[-1:] == ("NAMES",) and not are_enough(head, parts[-1]):
        return None
    told = [head]
    for kind, part in zip(form, parts):
        if kind not in FIXED:
            told.append(int(part) if kind == "NUMBER" else part)
    return tuple(told)


def read_line(line):
    """Return what the line tells, a tuple, or None if it is not understood."""
    if line == "":
        return ()
    head, *words = line.split(" ")
    form = FORMS.get(head)
    if form is None:
        return None
    return read_form(head, form, words)


def write_line(parts):
    """Return the line that tells this."""
    if parts == ():
        return ""
    words = [parts[0]]
    at = 1
    for kind in FORMS[parts[0]]:
        if kind in FIXED:
            words.append(kind)
            continue
        if kind == "NAMES":
            words.extend(parts[at])
        else:
            words.append(str(parts[at]))
        at += 1
    return " ".join(words)
