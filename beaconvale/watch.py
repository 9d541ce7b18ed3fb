"""A watch: a valley, and the row of deeds that made it what it is."""

from beaconvale.errors import NoFog, NothingBack
from beaconvale.tidings import earliest
from beaconvale.valley import Valley, names_of, refuse_no_beacon


def changed_to(valley, beacons, fogs):
    return Valley(valley.ground, beacons, fogs, valley.haze, valley.first, valley.last, valley.delay)


def own_copy(valley):
    return changed_to(valley, valley.beacons, valley.fogs)


class Watch:
    def __init__(self, valley):
        # The valley as it was at first, then as each deed that stands made it.
        self.stages = [own_copy(valley)]

    def deeds(self):
        return len(self.stages) - 1

    def stand_by(self, beacons, fogs):
        # What makes no valley is refused here, ahead of any change.
        self.stages.append(changed_to(self.stages[-1], beacons, fogs))
        return self.deeds()

    def build(self, name, x, z):
        now = self.stages[-1]
        return self.stand_by(now.beacons + [(name, x, z)], now.fogs)

    def raze(self, name):
        now = self.stages[-1]
        refuse_no_beacon(now, name)
        return self.stand_by([beacon for beacon in now.beacons if beacon[0] != name], now.fogs)

    def raise_to(self, name, z):
        now = self.stages[-1]
        refuse_no_beacon(now, name)
        beacons = [(beacon[0], beacon[1], z) if beacon[0] == name else beacon for beacon in now.beacons]
        return self.stand_by(beacons, now.fogs)

    def foretell(self, fog):
        now = self.stages[-1]
        return self.stand_by(now.beacons, now.fogs + [fog])

    def lift(self, k):
        now = self.stages[-1]
        if k < 0 or k >= len(now.fogs):
            raise NoFog("no fog has this number")
        return self.stand_by(now.beacons, now.fogs[:k] + now.fogs[k + 1:])

    def back(self):
        if self.deeds() == 0:
            raise NothingBack("no deed stands")
        self.stages.pop()
        return self.deeds()

    def valley_now(self):
        return own_copy(self.stages[-1])

    def hour_of(self, name, hour, goal):
        now = self.stages[-1]
        refuse_no_beacon(now, goal)
        lit_hours = earliest(now, name, hour)
        return lit_hours[names_of(now).index(goal)]
