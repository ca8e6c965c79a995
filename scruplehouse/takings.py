"""Takings: the hours at which a course's powders are taken. Hours are counted on and on, 24 a day."""

from scruplehouse.recipes import DAY


def takings(recipe, start):
    """The first hours of the recipe from the start on, one for each full taking in its powders."""
    number = recipe[1] // recipe[2]
    day = start - start % DAY
    hours = []
    while len(hours) < number:
        hours.extend([day + hour for hour in recipe[3] if day + hour >= start])
        day = day + DAY
    return hours[:number]
