"""Ways: texts of the signs u (up), l (level), d (down) that never fall below nought."""

from heightfractions.errors import NoNumber, NoWay, TooMany

# The signs stand in the order in which texts are sorted.
RISES = {"d": -1, "l": 0, "u": 1}
MOST_LISTED = 400


def heights_along(way, first):
    """The heights of a way that may end anywhere; else NoWay at the sign that bars it."""
    heights = [first]
    for at, sign in enumerate(way):
        if sign not in RISES:
            raise NoWay(at)
        height = heights[at] + RISES[sign]
        if height < 0:
            raise NoWay(at)
        heights.append(height)
    return tuple(heights)


def heights_of(way, first=0, last=0):
    """The heights of a way from the first to the last one; else NoWay at the place that bars it."""
    heights = heights_along(way, first)
    if heights[len(way)] != last:
        raise NoWay(len(way))
    return heights


def is_within(height, below):
    """Whether the height is from 0 on and, where below is told, less than it."""
    return height >= 0 and (below is None or height < below)


def one_step_longer(counts, below):
    """Of the numbers of ways to the end by the height, those of ways with one more step ahead."""
    longer = {}
    for end in counts:
        for sign in RISES:
            start = end - RISES[sign]
            if is_within(start, below):
                longer[start] = longer.get(start, 0) + counts[end]
    return longer


def ways_to_go(length, last, below):
    """At each place m to the length a dict: by the height, how many ways of m steps go from it to the last."""
    to_go = [{last: 1} if is_within(last, below) else {}]
    for step in range(length):
        to_go.append(one_step_longer(to_go[step], below))
    return to_go


def ways_counted(length, first=0, last=0, below=None):
    """How many ways of the length there are from the first height to the last."""
    if length < 0:
        return 0
    return ways_to_go(length, last, below)[length].get(first, 0)


def way_at(to_go, first, number):
    """The way that so many are ahead of, of those from the first height that to_go counts."""
    way = ""
    height = first
    rest = number
    for left in reversed(to_go[:-1]):
        for sign in RISES:
            many = left.get(height + RISES[sign], 0)
            if rest < many:
                way = way + sign
                height = height + RISES[sign]
                break
            rest = rest - many
    return way


def ways_listed(length, first=0, last=0, below=None):
    """The ways that ways_counted counts, sorted; more than four hundred: TooMany."""
    many = ways_counted(length, first, last, below)
    if many > MOST_LISTED:
        raise TooMany("more than four hundred ways are not listed")
    to_go = ways_to_go(length, last, below)
    return [way_at(to_go, first, number) for number in range(many)]


def number_of(way):
    """The number of a way from 0 to 0 among those of its length; else NoWay."""
    heights = heights_of(way)
    to_go = ways_to_go(len(way), 0, None)
    number = 0
    for at, sign in enumerate(way):
        left = to_go[len(way) - at - 1]
        number = number + sum([left.get(heights[at] + RISES[other], 0) for other in RISES if other < sign])
    return number


def way_by(length, number):
    """The way from 0 to 0 of the length that has the number; else NoNumber."""
    if not 0 <= number < ways_counted(length):
        raise NoNumber("no way of this length has this number")
    return way_at(ways_to_go(length, 0, None), 0, number)
