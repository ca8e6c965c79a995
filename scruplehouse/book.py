"""The body's book: rules for what is taken, and the courses held against them.

Each rule looks at the last so many hours, up to an hour of a taking: once at this hour alone, day at 24, apart at as
many as it tells. A diary is a list of pairs (recipe, hours), for each course the hours of its takings.
"""

from scruplehouse.ratios import fraction, greatest_divisor
from scruplehouse.recipes import DAY, dose
from scruplehouse.takings import takings

ONCE = "once"
APART = "apart"


def diary_of(courses):
    """The courses with the hours of their takings."""
    return [(recipe, takings(recipe, start)) for recipe, start in courses]


def width_of(rule):
    """How many hours the rule looks at, the last one included."""
    if rule[0] == ONCE:
        return 1
    if rule[0] == APART:
        return rule[3]
    return DAY


def stuffs_of(rule):
    """The stuffs that the rule speaks of."""
    if rule[0] == APART:
        return [rule[1], rule[2]]
    return [rule[1]]


def common_bottom(fractions):
    """The least number that is a multiple of each one's bottom."""
    bottom = 1
    for one in fractions:
        bottom = bottom // greatest_divisor(bottom, one[1]) * one[1]
    return bottom


def taken_of(stuff, diary):
    """A dict of how much of the stuff is taken at each hour of a taking, in parts, and how many parts a grain has."""
    # In whole parts a sum over many takings needs no lowest terms on the way.
    doses = [dose(recipe, stuff) for recipe, hours in diary]
    bottom = common_bottom(doses)
    taken = {}
    for amount, course in zip(doses, diary):
        parts = amount[0] * (bottom // amount[1])
        for hour in course[1]:
            taken[hour] = taken.get(hour, 0) + parts
    return (taken, bottom)


def totals(taken, width):
    """For each hour of a taking, rising, a pair of it and of how much is taken in the last so many hours up to it."""
    hours = sorted(taken)
    told = []
    total = 0
    first = 0
    for hour in hours:
        total = total + taken[hour]
        while hours[first] <= hour - width:
            total = total - taken[hours[first]]
            first = first + 1
        told.append((hour, total))
    return told


def first_too_much(rule, diary):
    """The first hour at which more than the amount was taken, None if there is none."""
    found = taken_of(rule[1], diary)
    limit = rule[2][0] * found[1]
    for hour, total in totals(found[0], width_of(rule)):
        if total * rule[2][1] > limit:
            return hour
    return None


def first_too_near(rule, diary):
    """The first hour at which one of both stuffs is taken and the other is or was a little ahead, None if none."""
    width = width_of(rule)
    ones = totals(taken_of(rule[1], diary)[0], width)
    others = totals(taken_of(rule[2], diary)[0], width)
    for one, other in zip(ones, others):
        # At the first hour that sees both, one of them is taken: else an hour ahead would have seen both, too.
        if one[1] > 0 and other[1] > 0:
            return one[0]
    return None


def first_break(rule, diary):
    """The first hour at which the rule is broken, None if there is none."""
    if rule[0] == APART:
        return first_too_near(rule, diary)
    return first_too_much(rule, diary)


def takes_part(course, rule, hour):
    """Whether the course takes a stuff of the rule in the hours that it looks at up to this one."""
    if not any([dose(course[0], stuff)[0] > 0 for stuff in stuffs_of(rule)]):
        return False
    return any([hour - width_of(rule) < own <= hour for own in course[1]])


def clash_in(rules, diary):
    """The first clash of the rules and the diary's courses, None if there is none."""
    breaks = []
    for number, rule in enumerate(rules):
        hour = first_break(rule, diary)
        if hour is not None:
            breaks.append((hour, number))
    if len(breaks) == 0:
        return None
    first = min(breaks)
    rule = rules[first[1]]
    part = [number for number, course in enumerate(diary) if takes_part(course, rule, first[0])]
    return (first[0], first[1], part)


def clash(rules, courses):
    """The first clash: the hour, the number of the rule and the numbers of the courses; None if there is none."""
    return clash_in(rules, diary_of(courses))


def sums(rules, courses):
    """For each hour of a taking and each rule once or day: the hour, the rule's number, and how much is taken."""
    diary = diary_of(courses)
    told = []
    for number, rule in enumerate(rules):
        if rule[0] != APART:
            found = taken_of(rule[1], diary)
            for hour, total in totals(found[0], width_of(rule)):
                told.append((hour, number, fraction(total, found[1])))
    return sorted(told)


def earliest(rules, courses, recipe, hour, within=24):
    """The first start without a clash, from the hour on, or None; and the pairs (start, clash) ahead of it."""
    diary = diary_of(courses)
    refused = []
    for start in range(hour, hour + within):
        found = clash_in(rules, diary + [(recipe, takings(recipe, start))])
        if found is None:
            return (start, refused)
        refused.append((start, found))
    return (None, refused)
