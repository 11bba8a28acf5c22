"""The valid places with their sizes and references."""


class Things:
    def __init__(self):
        self.sizes = {}
        self.references = {}

    def enter(self, place, size, references):
        self.sizes[place] = size
        self.references[place] = references

    def is_valid(self, place):
        return place in self.sizes

    def load(self):
        return sum(self.sizes.values())

    # A loop with a list of its own: chains of references may be as long as there are places.
    def closure(self, places):
        reached = {}
        for place in places:
            reached[place] = True
        waiting = list(reached)
        while waiting:
            place = waiting.pop()
            for reference in self.references[place]:
                if reference not in reached:
                    reached[reference] = True
                    waiting.append(reference)
        return reached
