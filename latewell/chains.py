"""What comes of a thing by a row, and what comes to a row of what came to its FROMs (point 15)."""

from latewell.boxes import box_has, box_sieved


def through_row(row, thing):
    """What comes of a thing by a row with one FROM: a thing, or None."""
    rest = row[3]
    if row[0] == "turn":
        return (thing[0], thing[1], rest[0] * thing[2] + rest[1])
    if row[0] == "later":
        return (thing[0] + rest[0], thing[1], thing[2])
    if row[0] == "put":
        return (thing[0], dict(rest).get(thing[1], thing[1]), thing[2])
    sieve = box_sieved(row)
    return thing if sieve is not None and box_has(sieve, thing) else None


def through_froms(row, above, by_row):
    """What comes to a chain that is no in, one FROM behind the other.

    above is a dict, by their names, of lists of what came to the rows above, things or boxes; by_row tells
    what comes of one of these by a row with one FROM, or None.
    """
    found = []
    for name in row[2]:
        found.extend(above[name])
    if row[0] == "pour":
        return found
    found = [by_row(row, one) for one in found]
    return [one for one in found if one is not None]
