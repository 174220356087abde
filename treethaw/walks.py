"""Walks: everything that is met from some beginnings on, each once and in the order of first meeting."""


def first_met(values):
    """The different values, each with its number in the order of first meeting."""
    found = {}
    for value in values:
        if value not in found:
            found[value] = len(found)
    return found


def walk(beginnings, behind):
    """The beginnings, then what is behind each of them in turn, then what is behind that, and so on."""
    found = first_met(beginnings)
    order = list(found)
    at = 0
    while at < len(order):
        values = behind(order[at])
        for value in values:
            if value not in found:
                found[value] = len(order)
                order.append(value)
        at += 1
    return order
