"""Places: what is named, and the parts of it."""

from runlore.errors import NoPlace
from runlore.values import Fault, is_integer, is_name


def is_place(thing):
    """Whether it is a tuple of a name and integers from 0 on."""
    if not isinstance(thing, tuple) or not thing or not is_name(thing[0]):
        return False
    return all([is_integer(index) and index >= 0 for index in thing[1:]])


def layers_at(inputs, place):
    """The values at all places that lead to this one, and at itself."""
    if place[0] not in inputs or isinstance(inputs[place[0]], Fault):
        raise NoPlace(place)
    layers = [inputs[place[0]]]
    for index in place[1:]:
        whole = layers[-1]
        if not isinstance(whole, tuple) or index >= len(whole):
            raise NoPlace(place)
        layers.append(whole[index])
    return layers


def value_at(inputs, place):
    """The value at a place."""
    return layers_at(inputs, place)[-1]


def with_part(inputs, place, value):
    """New inputs, with another value at the place."""
    changed = {name: inputs[name] for name in inputs}
    if len(place) == 1:
        # The old value may be a fault here: nothing of it stays.
        if place[0] not in inputs:
            raise NoPlace(place)
        changed[place[0]] = value
        return changed
    layers = layers_at(inputs, place)
    for step in range(len(place) - 1, 0, -1):
        whole = layers[step - 1]
        index = place[step]
        value = (*whole[:index], value, *whole[index + 1:])
    changed[place[0]] = value
    return changed
