"""An open session: what it holds and what it builds."""


class Session:
    def __init__(self):
        self.held = {}
        self.building = False
        self.outs = []
        self.ins = []

    def hold_all(self, places):
        for place in places:
            self.held[place] = True

    def anchored(self):
        return list(self.held) + self.ins

    def anchors_one_of(self, places):
        return any([place in places for place in self.anchored()])

    def start_building(self, outs, ins):
        self.building = True
        self.outs = outs
        self.ins = ins

    # Emptied, so that a session that isn't building locks no outs and anchors no ins.
    def end_building(self):
        self.building = False
        self.outs = []
        self.ins = []
