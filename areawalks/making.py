"""How the ledge and the home number of a table are made of told places."""


def made_numbers(brew, count):
    """Makes the ledge and the home place of so many told places.

    Returned are the numbers of the ledge's places in a list, and that of (0, 0, c), or None if c is 0.
    """
    # Each line puts a place into the stead of another one and can be undone, so that
    # the same is made of what is left: ends first, and the areas over (0, 0) last.
    first, others = gathered(brew, list(range(1, count + 1)), end_x)
    second, storeys = gathered(brew, others, end_y)
    if first is not None and second is not None:
        first = lowered(brew, first, second, end_y)
        storeys.append(swapped(brew, first, second))
    home, _ = gathered(brew, storeys, swept_area)
    ledge = [number for number in (first, second) if number is not None]
    if home is not None:
        ledge = [lowered(brew, number, home, swept_area) for number in ledge]
    return ledge, home


def end_x(place):
    """The x of a place."""
    return place.x


def end_y(place):
    """The y of a place."""
    return place.y


def swept_area(place):
    """The area of a place."""
    return place.area


def gathered(brew, numbers, measure):
    """Makes one place of which the measure is the greatest common divisor, and others with 0.

    Returned are its number, None if all measures are 0, and the list of the others' numbers.
    """
    best = None
    others = []
    for number in numbers:
        if measure(brew.places[number]) == 0:
            others.append(number)
        elif best is None:
            best = number
        else:
            best, still = divided(brew, best, number, measure)
            others.append(still)
    if best is not None and measure(brew.places[best]) < 0:
        best = brew.add_line(0, -1, best)
    return best, others


def divided(brew, high, low, measure):
    """Takes powers of one place off another one until the measure of one of them is 0."""
    while measure(brew.places[low]) != 0:
        high, low = low, lowered(brew, high, low, measure)
    return high, low


def lowered(brew, number, unit, measure):
    """Takes so many of the unit off a place that the rest of its measure by that of the unit is left."""
    times = measure(brew.places[number]) // measure(brew.places[unit])
    if times == 0:
        return number
    return brew.add_line(number, -times, unit)


def swapped(brew, first, second):
    """Makes the place (0, 0, twist) of two places: both, and then both walked back."""
    both = brew.add_line(first, 1, second)
    return brew.add_line(brew.add_line(both, -1, first), -1, second)
