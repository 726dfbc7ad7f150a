"""What comes of one thing by one row (point 15)."""

from latewell.boxes import box_has, box_sieved


def through_row(row, thing):
    """What comes of a thing by a row with one FROM: a thing, or None."""
    rest = row[3]
    if row[0] == "turn":
        return (thing[0], thing[1], rest[0] * thing[2] + rest[1])
    if row[0] == "later":
        return (thing[0] + rest[0], thing[1], thing[2])
    if row[0] == "put":
        return (thing[0], dict(rest).get(thing[1], thing[1]), thing[2])
    sieve = box_sieved(row)
    return thing if sieve is not None and box_has(sieve, thing) else None
