"""Works told as text: rows of words, each standing on rows above it (points 10, 11, 12).

A works is a list of rows, tuples (word, name, froms, rest).
"""

from latewell.errors import NoText
from latewell.keysets import is_key

# What stands behind each word, as point 10 tells it; an ask may have LOW HIGH too.
FORMS = {
    "in": "NAME LOW HIGH",
    "time": "NAME FROM BEGIN END",
    "only": "NAME FROM KEY ..",
    "but": "NAME FROM KEY ..",
    "span": "NAME FROM LOW HIGH",
    "rest": "NAME FROM M R",
    "turn": "NAME FROM A B",
    "later": "NAME FROM C",
    "put": "NAME FROM KEY OTHER ..",
    "pour": "NAME FROM FROM ..",
    "pair": "NAME LEFT RIGHT REACH HOW",
    "fixed": "NAME FROM WIDTH FOLD",
    "slide": "NAME FROM WIDTH STEP FOLD",
    "gaps": "NAME FROM GAP FOLD",
    "ever": "NAME FROM FOLD",
    "ask": "NAME FROM",
}
CHAINS = ("in", "time", "only", "but", "span", "rest", "turn", "later", "put", "pour")
FOLDS = ("fixed", "slide", "gaps", "ever")
FROM_PLACES = ("FROM", "LEFT", "RIGHT")
KEY_PLACES = ("NAME", "FROM", "LEFT", "RIGHT", "KEY", "OTHER")
BOUND_PLACES = ("LOW", "HIGH", "END")
HOWS = ("sum", "less", "left", "right")
FOLD_WORDS = ("count", "sum", "most", "least")
FIGURES = "0123456789"
MOST_FIGURES = 12
MOST_ROWS = 24
# What an ask with LOW HIGH may ask of a count.
MOST_COUNTED = 50


def is_number(word):
    """Whether a word tells a number by its figures, without a 0 ahead but in 0."""
    figures = word[1:] if word.startswith("-") else word
    if not 1 <= len(figures) <= MOST_FIGURES or not all([sign in FIGURES for sign in figures]):
        return False
    return word == "0" or figures[0] != "0"


def places_of(word, count):
    """What the words behind the first word of a row stand for, where there are this many of them."""
    form = FORMS[word] + " LOW HIGH" if word == "ask" and count > 2 else FORMS[word]
    places = form.split(" ")
    if places[-1] == "..":
        places.pop()
        places.extend([places[-1]] * (count - len(places)))
    return places


def fits(place, word):
    """Whether a word is of the sort that stands at this place."""
    if place in KEY_PLACES:
        return is_key(word)
    if place == "HOW":
        return word in HOWS
    if place == "FOLD":
        return word in FOLD_WORDS
    return is_number(word) or (word == "*" and place in BOUND_PLACES)


def word_value(word):
    """What a word of the rest tells; no key and no other word looks like a number."""
    if word == "*":
        return None
    return int(word) if is_number(word) else word


def in_order(low, high):
    """Whether low is not above high, None for no bound."""
    return low is None or high is None or low <= high


def are_unlike(names):
    """Whether no name stands twice."""
    return len(set(names)) == len(names)


def keeps_bounds(word, froms, rest):
    """Whether what a row tells keeps to the bounds of point 10; the rest of a put is still a row of keys."""
    if word in ("in", "span", "ask"):
        return not rest or in_order(rest[0], rest[1])
    if word == "time":
        return rest[0] >= 0 and (rest[1] is None or rest[0] < rest[1])
    if word in ("only", "but"):
        return len(rest) <= 8 and are_unlike(rest)
    if word == "rest":
        return 2 <= rest[0] <= 1000 and 0 <= rest[1] < rest[0]
    if word == "turn":
        return -1000 <= rest[0] <= 1000 and rest[0] != 0
    if word == "put":
        return len(rest) in (2, 4, 6, 8) and are_unlike(rest[::2])
    if word == "pour":
        return len(froms) <= 8 and are_unlike(froms)
    if word in ("later", "pair"):
        return rest[0] >= 0
    if word == "slide":
        return 1 <= rest[1] < rest[0] <= 20 * rest[1]
    return word == "ever" or rest[0] >= 1


def read_row(text):
    """The row that a text tells, or None where it is none of those of point 10."""
    words = text.split(" ")
    word = words[0]
    if word not in FORMS:
        return None
    places = places_of(word, len(words) - 1)
    told = list(zip(places, words[1:]))
    if len(places) != len(words) - 1 or not all([fits(place, told_word) for place, told_word in told]):
        return None
    froms = tuple([told_word for place, told_word in told if place in FROM_PLACES])
    rest = tuple([word_value(told_word) for told_word in words[2 + len(froms):]])
    if not keeps_bounds(word, froms, rest):
        return None
    if word == "put":
        rest = tuple(zip(rest[::2], rest[1::2]))
    return (word, words[1], froms, rest)


def bears_bounds(fold, above, low):
    """Whether an ask with LOW HIGH may stand on this fold, by point 11; above is a dict of rows by names."""
    fold_word = fold[3][-1]
    if fold[0] == "gaps" or fold_word == "sum" or above[fold[2][0]][0] == "pair":
        return False
    return fold_word != "count" or (low is not None and 1 <= low <= MOST_COUNTED)


def stands_right(row, above):
    """Whether a row may stand below those above it, by point 11; above is a dict of rows by names."""
    if row[1] in above or not all([name in above for name in row[2]]):
        return False
    from_rows = [above[name] for name in row[2]]
    if row[0] == "ask":
        return from_rows[0][0] in FOLDS and (not row[3] or bears_bounds(from_rows[0], above, row[3][0]))
    if row[0] in ("fixed", "slide", "ever") and from_rows[0][0] == "pair":
        return row[3][-1] != "sum"
    return all([from_row[0] in CHAINS for from_row in from_rows])


def read_works(text):
    """The works that a text tells; refused with NoText, at its first wrong row."""
    if not isinstance(text, str):
        raise NoText(0)
    above = {}
    for number, row_text in enumerate(text.split("\n")):
        row = read_row(row_text)
        if number >= MOST_ROWS or row is None or not stands_right(row, above):
            raise NoText(number)
        above[row[1]] = row
    return list(above.values())


def shown_row(row):
    """The text of a row."""
    words = [row[0], row[1]] + list(row[2])
    for value in row[3]:
        if isinstance(value, tuple):
            words.extend(value)
        else:
            words.append("*" if value is None else str(value))
    return " ".join(words)


def shown_works(works):
    """The text of a works."""
    return "\n".join([shown_row(row) for row in works])


def row_named(works, name):
    """The row with this name, or None."""
    for row in works:
        if row[1] == name:
            return row
    return None


def rows_below(works, name):
    """The names of the rows on which a row stands, itself among them, in the works' order."""
    below = {name: True}
    for row in reversed(works):
        if row[1] in below:
            for from_name in row[2]:
                below[from_name] = True
    return [row[1] for row in works if row[1] in below]


def chains_below(works, name):
    """The chains on which a row stands, in the works' order."""
    below = rows_below(works, name)
    return [row for row in works if row[0] in CHAINS and row[1] in below]
