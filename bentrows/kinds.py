"""The kinds of things that several modules ask about."""


def is_whole(thing):
    # Python counts truths among its ints; here they are no numbers.
    return isinstance(thing, int) and not isinstance(thing, bool)


def is_point(thing):
    return isinstance(thing, tuple) and len(thing) == 2 and is_whole(thing[0]) and is_whole(thing[1])


def is_place(thing, many):
    return is_whole(thing) and 0 <= thing < many


def are_rising_places(thing, many):
    # The kinds are asked first: things of unlike kinds can't be compared.
    if not isinstance(thing, tuple) or not all([is_place(place, many) for place in thing]):
        return False
    return all([thing[at] < thing[at + 1] for at in range(len(thing) - 1)])
