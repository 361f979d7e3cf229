"""Zones: all ways of giving days to a few points that keep bounds on the differences of the points."""

# Stands where a difference has no bound; all bounds of a zone are far below its half.
FAR = 1000000000000000000
HALF = 500000000000000000


class Zone:
    """The days that keep all bounds; `limits[left][right]` is the least bound of left - right that follows.

    `trail` is None, or a pair of the trail before it and the latest bound (left, right, most).
    """

    def __init__(self, limits, trail):
        self.limits = limits
        self.trail = trail

    def narrowed(self, left, right, most):
        """Return the zone with the bound left - right <= most, too, or None if it has no days."""
        limits = self.limits
        if limits[left][right] <= most:
            return self
        onward = limits[right]
        if onward[left] + most < 0:
            return None
        found = []
        for row in limits:
            reach = row[left] + most
            # Only a point whose difference to `right` gets a lesser bound has other lesser ones.
            if reach < row[right] and reach < HALF:
                row = [held if held <= reach + step else reach + step for held, step in zip(row, onward)]
            found.append(row)
        return Zone(found, (self.trail, (left, right, most)))

    def widened(self):
        """Return the zone with one point more, which has no bounds."""
        count = len(self.limits)
        found = [[*row, FAR] for row in self.limits]
        found.append([FAR] * count + [0])
        return Zone(found, self.trail)

    def solution(self):
        """Return days that keep all bounds, one for each point."""
        found = []
        for point, row in enumerate(self.limits):
            # Whatever the points before this one were given, some day is left for it.
            least = [day - self.limits[other][point] for other, day in enumerate(found)
                     if self.limits[other][point] < HALF]
            most = [day + row[other] for other, day in enumerate(found) if row[other] < HALF]
            if least:
                found.append(max(least))
            else:
                found.append(min(most) if most else 0)
        return found


def bounds_of(zone):
    """Return the bounds of the trail of the zone, in their order."""
    found = []
    trail = zone.trail
    while trail is not None:
        trail, bound = trail
        found.append(bound)
    return found[::-1]


def free_zone(count):
    """Return the zone of so many points without any bounds."""
    zone = Zone([], None)
    for _ in range(count):
        zone = zone.widened()
    return zone


# A term of a zone is a tuple (point, n): the day of the point plus n.

def later(term, number):
    """Return the term of the day that is so many days later."""
    return (term[0], term[1] + number)


def at_most(zone, one, other, slack=0):
    """Return the zone with one <= other + slack, too, or None; both are terms. The zone may be None."""
    if zone is None:
        return None
    return zone.narrowed(one[0], other[0], other[1] - one[1] + slack)


def halved(zone, left, right, most):
    """Return the zone with left - right <= most (or None), and the zone of all other days in a list, if any."""
    if zone.limits[left][right] <= most:
        return zone, []
    if zone.limits[right][left] + most < 0:
        return None, [zone]
    return zone.narrowed(left, right, most), [zone.narrowed(right, left, -most - 1)]


def parted(zone, one, sign, other):
    """Return the zone in which the terms compare so (or None), and a list of zones of all other days."""
    left, right = one[0], other[0]
    most = other[1] - one[1]
    if sign == "<":
        return halved(zone, left, right, most - 1)
    if sign == "<=":
        return halved(zone, left, right, most)
    if sign == ">":
        return halved(zone, right, left, -most - 1)
    if sign == ">=":
        return halved(zone, right, left, -most)
    within, others = halved(zone, left, right, most)
    if within is None:
        return None, others
    equal, more = halved(within, right, left, -most)
    return equal, others + more
