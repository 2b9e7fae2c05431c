"""Formulas: texts that tell how walks of names are put together."""

from areawalks.errors import BadText, NoWalk
from areawalks.names import BACK, is_walk_name
from areawalks.places import home_place

DIGITS = "0123456789"
MOST_DIGITS = 30
MOST_BRACKETS = 20


class Formula:
    """A text of walk names, brackets and prefixes."""

    def __init__(self, text):
        self.things = read_things(text)
        self.text = text
        self.said = tuple([word for word in text.split(" ") if is_walk_name(word)])

    def __eq__(self, other):
        return isinstance(other, Formula) and self.text == other.text

    def names(self):
        """The walk names of the text, each once, ascending."""
        return tuple(sorted(set(self.said)))

    def place(self, walks):
        """The Place to which the walk leads, by a dict from names to Walks."""
        places = {}
        for name in self.said:
            if name not in walks:
                raise NoWalk(name)
            if name not in places:
                places[name] = walks[name].place()
        return place_of(self.things, places)


class Reader:
    """What was read of a formula: the things of the innermost open bracket, and those around it."""

    def __init__(self):
        self.things = []
        self.times = 1
        self.is_thing_due = True
        self.around = []

    def read(self, word):
        """Reads one word; whether it can stand here."""
        times = prefix_of(word)
        if times is not None:
            self.times = self.times * times
            self.is_thing_due = True
            return True
        if is_walk_name(word):
            self.take_thing(word)
            return True
        if word == "(":
            return self.go_in()
        return word == ")" and self.go_out()

    def take_thing(self, thing):
        """Takes a thing, which is a name or a list of things, with the prefixes before it."""
        self.things.append((self.times, thing))
        self.times = 1
        self.is_thing_due = False

    def go_in(self):
        """Reads a bracket that opens."""
        if len(self.around) == MOST_BRACKETS:
            return False
        self.around.append((self.things, self.times))
        self.things = []
        self.times = 1
        self.is_thing_due = True
        return True

    def go_out(self):
        """Reads a bracket that closes."""
        if self.is_thing_due or len(self.around) == 0:
            return False
        inner = self.things
        self.things, self.times = self.around.pop()
        self.take_thing(inner)
        return True

    def is_done(self):
        """Whether the text may end here."""
        return not self.is_thing_due and len(self.around) == 0


def read_things(text):
    """The things of a formula: pairs of a number of times and a name, or such a list in brackets."""
    if not isinstance(text, str):
        raise BadText(0)
    words = text.split(" ") if text != "" else []
    reader = Reader()
    for number, word in enumerate(words):
        if not reader.read(word):
            raise BadText(number)
    if not reader.is_done():
        raise BadText(len(words))
    return reader.things


def prefix_of(word):
    """How many times a prefix has the thing behind it done, None for any other word."""
    if word == BACK:
        return -1
    digits = word[1:] if word.startswith("-") else word
    if not 1 <= len(digits) <= MOST_DIGITS or digits.strip(DIGITS) != "":
        return None
    if digits.startswith("0") and word != "0":
        return None
    return int(word)


def place_of(things, places):
    """The Place to which things lead, by a dict from names to Places."""
    product = home_place()
    for times, thing in things:
        place = places[thing] if isinstance(thing, str) else place_of(thing, places)
        product = product * (place if times == 1 else place.power(times))
    return product
