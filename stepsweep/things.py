"""The valid places with their sizes, references and knots."""

from stepsweep.walks import knots_among, reached_from, turned_round


class Things:
    # By a knot's smallest place, mentions tells how many references lead into the knot from outside of it.
    def __init__(self):
        self.sizes = {}
        self.references = {}
        self.knots = {}
        self.mentions = {}

    def enter_all(self, places, sizes, rows):
        entered = {}
        for index, place in enumerate(places):
            entered[place] = rows[index]
            self.sizes[place] = sizes[index]
        self.references.update(entered)
        # Older places refer to none of these, so every new knot lies among them and no old one changes.
        for knot in knots_among(entered):
            self.keep_knot(knot)
        for place in places:
            self.count_mentions(place, 1)

    def keep_knot(self, knot):
        self.mentions[knot[0]] = 0
        for place in knot:
            self.knots[place] = knot

    def count_mentions(self, place, step):
        own = self.knots[place][0]
        for reference in self.references[place]:
            smallest = self.knots[reference][0]
            if smallest != own:
                self.mentions[smallest] = self.mentions[smallest] + step

    def take_away(self, knot):
        for place in knot:
            self.count_mentions(place, -1)
        for place in knot:
            self.sizes.pop(place)
            self.references.pop(place)
            self.knots.pop(place)
        self.mentions.pop(knot[0])

    def is_valid(self, place):
        return place in self.sizes

    def is_mentioned_from_outside(self, place):
        return self.mentions[self.knots[place][0]] > 0

    def load(self):
        return sum(self.sizes.values())

    def closure(self, places):
        return reached_from(places, self.references)

    def reaching(self, place):
        return reached_from([place], turned_round(self.references))
