"""The orders of all rows that are equal to a row: how many there are, and how they are numbered."""

from patchrows.rows import names_in, needed_names, place_of


# Some of the names are told as one number with a bit for each: there are at most 1024 such groups,
# while there may be more than three million orders.
def group_of(names, some):
    return sum([1 << names.index(name) for name in some])


def can_be_next(needed, group, place):
    stands = (group >> place) & 1
    return stands == 0 and (needed[place] & group) == needed[place]


def places_next(needed, group):
    return [place for place in range(len(needed)) if can_be_next(needed, group, place)]


# For each group, in how many ways the others can stand behind it. A larger group has a larger number,
# so what is asked for is always there already.
def ways_behind(needed):
    everything = (1 << len(needed)) - 1
    ways = {everything: 1}
    for group in range(everything - 1, -1, -1):
        ways[group] = sum([ways[group | (1 << place)] for place in places_next(needed, group)])
    return ways


# An order is one of an equal row just if each name stands behind all that its patch needs.
class Orders:
    def __init__(self, row):
        self.names = sorted(names_in(row))
        self.needed = [group_of(self.names, needed_names(row, place_of(row, name))) for name in self.names]
        self.ways = ways_behind(self.needed)

    def how_many(self):
        return self.ways[0]

    # How many orders begin with this group as it stands and go on with a name below that at this place.
    def how_many_below(self, group, place):
        below = [lower for lower in places_next(self.needed, group) if lower < place]
        return sum([self.ways[group | (1 << lower)] for lower in below])

    def numbered(self, number):
        order = []
        group = 0
        left = number
        while len(order) < len(self.names):
            free = places_next(self.needed, group)
            place = max([next_one for next_one in free if self.how_many_below(group, next_one) <= left])
            left -= self.how_many_below(group, place)
            group += 1 << place
            order.append(self.names[place])
        return order

    def number_of(self, order):
        number = 0
        group = 0
        for name in order:
            place = self.names.index(name)
            number += self.how_many_below(group, place)
            group += 1 << place
        return number
