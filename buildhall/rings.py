"""Rings and orders of rows of places: each row has the places that its place needs."""


def order_of(needs):
    order = order_so_far(needs)
    return order if len(order) == len(needs) else None


def order_so_far(needs):
    # Where there is a ring, its places and all that need them never get free.
    order = []
    ahead = {}
    place = least_free(needs, ahead)
    while place is not None:
        order.append(place)
        ahead[place] = True
        place = least_free(needs, ahead)
    return order


def least_free(needs, ahead):
    for place, row in enumerate(needs):
        if place not in ahead and all([need in ahead for need in row]):
            return place
    return None


def ring_of(needs):
    order = order_so_far(needs)
    stuck = [place for place in range(len(needs)) if place not in order]
    if not stuck:
        return None
    # Each stuck place needs another stuck one, so a walk along them comes round.
    walk = []
    place = stuck[0]
    while place not in walk:
        walk.append(place)
        place = [need for need in needs[place] if need in stuck][0]
    return walk[walk.index(place):]
