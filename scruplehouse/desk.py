"""The desk: rows are told to it, and it answers with texts."""

from scruplehouse.bench import Bench
from scruplehouse.book import clash, earliest
from scruplehouse.deskwords import insist, read_row, show_clash, show_plan
from scruplehouse.figures import show_fraction
from scruplehouse.store import Store

DONE = "ok"
NOTHING = "none"
FIRST_SETTINGS = {
    "box": (), "balance": (1, 1, (0, 1)), "amounts": (), "prices": (1, 1, 1), "most": 2, "off": (0, 1),
    "filler": "sugar",
}


def bench_of(settings):
    """The bench as it is set, or NoLoad."""
    return Bench(settings["box"], settings["balance"], settings["amounts"], settings["prices"], settings["filler"],
                 settings["off"], settings["most"])


def answer_put(desk, told):
    desk.store.put(told[0], told[1])
    return DONE


def answer_jar(desk, name):
    store = desk.store
    jar = [store.came(name), store.stands(name), store.given(name), store.wasted(name)]
    return " ".join([show_fraction(part) for part in jar])


def answer_plan(desk, amount):
    plan = bench_of(desk.settings).plan_of(amount)
    return NOTHING if plan is None else show_plan(plan)


def answer_make(desk, recipe):
    plans = bench_of(desk.settings).make(recipe, desk.store)
    return "; ".join([stuff + " " + show_plan(plan) for stuff, plan in plans])


def answer_rule(desk, rule):
    # The courses keep to the rules told already, so the new one alone is held against them.
    insist(clash([rule], desk.courses) is None)
    desk.rules.append(rule)
    return DONE


def answer_course(desk, course):
    found = clash(desk.rules, desk.courses + [course])
    if found is not None:
        return show_clash(found)
    desk.courses.append(course)
    return DONE


def answer_start(desk, told):
    start = earliest(desk.rules, desk.courses, told[0], told[1], told[2])[0]
    return NOTHING if start is None else str(start)


ANSWERS = {
    "put": answer_put, "jar": answer_jar, "plan": answer_plan, "make": answer_make,
    "rule": answer_rule, "course": answer_course, "start": answer_start,
}


class Desk:
    """Settings, jars, rules and courses, as they were told row by row."""

    def __init__(self):
        self.settings = dict(FIRST_SETTINGS)
        self.store = Store()
        self.rules = []
        self.courses = []

    def say(self, row):
        """The answer to the row; what is refused changes nothing."""
        deed = read_row(row)
        word = deed[0]
        if word in self.settings:
            self.settings[word] = deed[1]
            return DONE
        answer = ANSWERS[word]
        return answer(self, deed[1])
