"""Recipes without powers below 0, for told places whose ends reach to all sides.

A pair here is the number of a place in a recipe and the number of its way back.
"""


def told_pairs(brew, wheel):
    """Makes the way back of each told place and returns the pairs of home and of the told places."""
    numbers = list(range(1, len(brew.places)))
    opposites = [opposite(brew, wheel, number) for number in numbers]
    first, second = wheel[0] + 1, wheel[1] + 1
    rise, fall = storeys(brew, first, second, opposites[first - 1], opposites[second - 1])
    backs = [
        level(brew, facing, brew.add_line(number, 1, facing), rise, fall)
        for number, facing in zip(numbers, opposites)]
    return [(0, 0), *list(zip(numbers, backs))]


def opposite(brew, wheel, number):
    """Makes a place with the end of the way back of a told one."""
    place = brew.places[number]
    before, behind = spokes(brew, wheel, place)
    left, right = brew.places[before], brew.places[behind]
    # So many of the place and of both spokes come back: their twists among each other say how many.
    made = brew.add_line(0, left.twist(right) - 1, number)
    made = brew.add_line(made, right.twist(place), before)
    return brew.add_line(made, place.twist(left), behind)


def spokes(brew, wheel, place):
    """The numbers of two neighbours in the wheel between which the end opposite to the place's lies."""
    numbers = [at + 1 for at in wheel]
    pairs = [
        (before, behind) for before, behind in zip(numbers, [*numbers[1:], numbers[0]])
        if brew.places[behind].twist(place) >= 0 and place.twist(brew.places[before]) >= 0]
    return pairs[0]


def storeys(brew, first, second, back, behind):
    """Makes a place above home and one below it, by rounds one way and the other way.

    The last two numbers are those of places with the ends opposite to the first two.
    """
    places = brew.places
    lean = (places[first] * places[back]).area + (places[second] * places[behind]).area
    # A round of so many sweeps the twist by the square of this number, and the lean by the number.
    times = abs(lean) // places[first].twist(places[second]) + 1
    rise = powers_made(brew, [first, second, back, behind], times)
    return rise, powers_made(brew, [second, first, behind, back], times)


def powers_made(brew, numbers, times):
    """Makes the product of the same power of several places."""
    made = 0
    for number in numbers:
        made = brew.add_line(made, times, number)
    return made


def level(brew, facing, whole, rise, fall):
    """Makes the way back of a place.

    Told are the number of a place with the opposite end, and that of both together, which lies over home.
    """
    height = brew.places[whole].area
    if height == 0:
        return facing
    other = fall if height > 0 else rise
    # The other storey so many times outweighs the whole, which is put in again but for one time.
    made = brew.add_line(facing, abs(height), other)
    return brew.add_line(made, abs(brew.places[other].area) - 1, whole)


def made_pair(brew, front, times, behind):
    """Makes the pair of one place and a power of another one, from their pairs."""
    forth, back = behind if times >= 0 else (behind[1], behind[0])
    made = brew.add_line(front[0], abs(times), forth)
    return made, brew.add_line(brew.add_line(0, abs(times), back), 1, front[1])
