"""Keys, told as just some of them or as all but some, and tables of keys (point 7)."""

LETTERS = "abcdefghijklmnopqrstuvwxyz"
LONGEST = 8
EVERY_KEY = ("but", ())


def is_key(x):
    """Whether x is a text of one to eight small letters."""
    if not isinstance(x, str) or not 1 <= len(x) <= LONGEST:
        return False
    return all([sign in LETTERS for sign in x])


def keys_hold(keys, key):
    """Whether the key is one of the keys."""
    return (key in keys[1]) == (keys[0] == "only")


def keys_meet(one, other):
    """The keys that both have, or None."""
    if one[0] == "but" and other[0] == "but":
        return ("but", tuple(sorted(set(one[1]) | set(other[1]))))
    if one[0] == "but":
        return keys_meet(other, one)
    names = tuple([name for name in one[1] if keys_hold(other, name)])
    return ("only", names) if names else None


def keys_inside(one, other):
    """Whether each key of one is a key of other; a "but" is never inside an "only"."""
    return keys_meet(one, other) == one


def keys_put(keys, table):
    """What the keys become by the table."""
    others = dict(table)
    if keys[0] == "only":
        return ("only", tuple(sorted(set([others.get(name, name) for name in keys[1]]))))
    # A key of the table leaves its place, so it is there behind the table only where another one becomes it.
    left = list(keys[1]) + list(others)
    reached = [others[key] for key in others if key not in keys[1]]
    return ("but", tuple(sorted(set(left) - set(reached))))


def keys_put_back(keys, table):
    """The keys that become one of these by the table, or None."""
    others = dict(table)
    stay = [name for name in keys[1] if name not in others]
    become = [key for key in others if others[key] in keys[1]]
    names = tuple(sorted(stay + become))
    if keys[0] == "only" and not names:
        return None
    return (keys[0], names)


def key_behind(key):
    """The key that follows this one by length and then by letters, None behind the last one."""
    stem = key.rstrip("z")
    if stem == "":
        return "a" * (len(key) + 1) if len(key) < LONGEST else None
    letter = LETTERS[LETTERS.index(stem[-1]) + 1]
    return stem[:-1] + letter + "a" * (len(key) - len(stem))


def keys_some(keys, others):
    """The first key, by length and then by letters, that is one of keys and none of others, or None."""
    shut = {}
    for key in others:
        shut[key] = True
    if keys[0] == "only":
        names = [name for name in keys[1] if name not in shut]
        return min(names, key=lambda name: (len(name), name), default=None)
    for key in keys[1]:
        shut[key] = True
    key = "a"
    while key is not None and key in shut:
        key = key_behind(key)
    return key
