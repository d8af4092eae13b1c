"""A world whose events are put one by one, whatever their times."""

from quoteweave.going import gone


class Weave:
    def __init__(self, people, matters, against):
        self.people = list(people)
        self.matters = list(matters)
        self.against = list(against)
        self.events = []

    def put(self, event):
        self.events.append(event)

    def world(self):
        return (list(self.people), list(self.matters), list(self.against), list(self.events))

    def steps(self):
        return gone(self.world())

    def held(self):
        told = self.steps()
        return told[-1][3] if len(told) > 0 else []
