"""The kinds of things that several modules ask about, and the refusals that they share."""

from bentrows.errors import NoNumber, NoPlace, TooMany


def is_whole(thing):
    # Python counts truths among its ints; here they are no numbers.
    return isinstance(thing, int) and not isinstance(thing, bool)


def is_point(thing):
    return isinstance(thing, tuple) and len(thing) == 2 and is_whole(thing[0]) and is_whole(thing[1])


def is_place(thing, many):
    return is_whole(thing) and 0 <= thing < many


def are_rising_places(thing, many):
    # The kinds are asked first: things of unlike kinds can't be compared.
    if not isinstance(thing, tuple) or not all([is_place(place, many) for place in thing]):
        return False
    return all([thing[at] < thing[at + 1] for at in range(len(thing) - 1)])


def check_place(thing, many):
    if not is_place(thing, many):
        raise NoPlace("this is no place of the sheet")


def check_whole(thing):
    if not is_whole(thing):
        raise NoNumber("this is no whole number")


def check_number(thing, least, most):
    if not is_whole(thing) or not least <= thing <= most:
        raise NoNumber("this is no whole number of those asked for")


def check_few(many, most):
    if many > most:
        raise TooMany("there are more points than may be")
