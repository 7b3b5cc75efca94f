"""[50]: plans and their webs."""

import itertools
import unittest

from fewways.errors import NoPlan
from fewways.plans import is_plan, plan_web
from fewways.webs import is_web
from things import ONE, bad_plans, deep_plan, drawn_plans, full, ones_of, refused, some_plans, star, wide_plan


def ties_by_looking(plan):
    """The ties of a plan: each two places by the word of the innermost plan that holds both."""
    seats = []

    def note(inner, above):
        if inner == ONE:
            seats.append(above)
        else:
            for at, each in enumerate(inner[1]):
                note(each, above + ((inner[0], at),))

    note(plan, ())
    ties = []
    for low, high in itertools.combinations(range(len(seats)), 2):
        word = [one[0] for one, other in zip(seats[low], seats[high]) if one != other][0]
        if word == "across":
            ties.append((low, high))
    return (len(seats), tuple(ties))


class IsPlan(unittest.TestCase):
    def test_plans(self):
        for plan in [ONE, ("beside", (ONE, ONE)), ("across", (ONE, ONE)), ("across", (ONE, ONE, ONE)),
                     ("beside", (ONE, ("beside", (ONE, ONE)))), ("across", (("across", (ONE, ONE)), ("beside", (ONE, ONE))))]:
            self.assertIs(is_plan(plan), True, plan)
        for plan in some_plans(4):
            self.assertIs(is_plan(plan), True, plan)
        for plan in drawn_plans(200, 40, 1):
            self.assertIs(is_plan(plan), True, plan)

    def test_depths(self):
        for deep in range(1, 25):
            self.assertIs(is_plan(deep_plan(deep)), True, deep)
        for deep in range(25, 30):
            self.assertIs(is_plan(deep_plan(deep)), False, deep)
        self.assertIs(is_plan(("beside", (ONE, deep_plan(23), ONE))), True)
        self.assertIs(is_plan(("beside", (ONE, deep_plan(24), ONE))), False)

    def test_how_many(self):
        for many in range(2, 41):
            self.assertIs(is_plan(wide_plan("beside", many)), True)
            self.assertIs(is_plan(wide_plan("across", many)), True)
        for many in (41, 42, 100, 3000):
            self.assertIs(is_plan(wide_plan("beside", many)), False)
        self.assertIs(is_plan(("beside", (wide_plan("across", 20), wide_plan("across", 20)))), True)
        self.assertIs(is_plan(("beside", (wide_plan("across", 20), ONE, wide_plan("across", 20)))), False)
        # 24 deep and 40 in all.
        self.assertIs(is_plan(("across", tuple([ONE] * 17) + (deep_plan(23),))), True)
        self.assertIs(is_plan(("across", tuple([ONE] * 18) + (deep_plan(23),))), False)

    def test_the_same_plan_within_again_and_again(self):
        plan = ONE
        for _ in range(23):
            plan = ("beside", (plan, plan))
        self.assertIs(is_plan(plan), False)
        self.assertIs(is_plan(("beside", (plan, plan))), False)

    def test_other_things(self):
        for thing in bad_plans():
            self.assertIs(is_plan(thing), False, str(thing)[:200])


class PlanWeb(unittest.TestCase):
    def test_known(self):
        self.assertEqual(plan_web(ONE), (1, ()))
        self.assertEqual(plan_web(wide_plan("beside", 40)), (40, ()))
        self.assertEqual(plan_web(wide_plan("across", 40)), full(40))
        self.assertEqual(plan_web(("across", (ONE, wide_plan("beside", 39)))), star(40))
        self.assertEqual(plan_web(("beside", (ONE, ("across", (ONE, ONE)), ONE))), (4, ((1, 2),)))
        self.assertEqual(plan_web(("across", (("beside", (ONE, ONE)), ("beside", (ONE, ONE))))),
                         (4, ((0, 2), (0, 3), (1, 2), (1, 3))))
        self.assertEqual(plan_web(("across", (ONE, ("beside", (ONE, ONE)), ONE))),
                         (4, ((0, 1), (0, 2), (0, 3), (1, 3), (2, 3))))
        self.assertEqual(plan_web(("across", (ONE, ("across", (ONE, ONE))))), full(3))

    def test_against_looking_at_each_two(self):
        for plan in itertools.chain(some_plans(4), drawn_plans(150, 40, 2), [deep_plan(24)]):
            self.assertEqual(plan_web(plan), ties_by_looking(plan))
            self.assertIs(is_web(plan_web(plan)), True)
            self.assertEqual(plan_web(plan)[0], ones_of(plan))

    def test_no_plan(self):
        for thing in bad_plans():
            refused(self, NoPlan, plan_web, thing)


if __name__ == "__main__":
    unittest.main()
