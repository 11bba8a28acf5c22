"""Walks along references, and the knots that they tie."""


# A loop with a list of its own: chains of references may be as long as there are places.
# A place that has no row in the references leads no further.
def reached_from(places, references):
    reached = {}
    for place in places:
        reached[place] = True
    waiting = list(reached)
    while waiting:
        place = waiting.pop()
        for reference in references.get(place, []):
            if reference not in reached:
                reached[reference] = True
                waiting.append(reference)
    return reached


def turned_round(references):
    referrers = {}
    for place in references:
        for reference in references[place]:
            referrers.setdefault(reference, []).append(place)
    return referrers


def knots_among(references):
    places = sorted(references)
    reached = {}
    for place in places:
        reached[place] = reached_from([place], references)
    knots = []
    for place in places:
        knot = [other for other in places if other in reached[place] and place in reached[other]]
        # Every place of a knot finds it; it is told once, by its smallest.
        if knot[0] == place:
            knots.append(knot)
    return knots
