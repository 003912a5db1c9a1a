"""Keepers: a store with the log of all deals that made it."""

from dealtables.dealing import deal
from dealtables.logs import written_base, written_deal
from dealtables.schemas import store_without_rows


class Keeper:
    def __init__(self, schema):
        self.schema = schema
        self.text = ""
        # Pairs of where a base or a deal ends in the log and the store behind it, ahead of them all the bare start.
        self.ends = [(0, store_without_rows(schema))]
        # How many of these no undo takes back.
        self.settled = 1

    def deal(self, deeds):
        behind = deal(self.schema, self.store(), deeds)
        self.text += written_deal(deeds)
        self.ends.append((len(self.text), behind))

    def store(self):
        return self.ends[-1][1]

    def log(self):
        return self.text

    def thin(self):
        self.text = written_base(self.schema, self.store())
        self.ends = [self.ends[0], (len(self.text), self.store())]
        self.settled = len(self.ends)

    def stop(self, many):
        while len(self.ends) > 1 and self.ends[-1][0] > many:
            self.ends.pop()
        self.lose_what_is_not_whole()
        self.settled = len(self.ends)

    def undo(self):
        if len(self.ends) == self.settled:
            return False
        self.ends.pop()
        self.lose_what_is_not_whole()
        return True

    def lose_what_is_not_whole(self):
        self.text = self.text[:self.ends[-1][0]]
