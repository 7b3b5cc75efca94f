"""[2], [3]: nothing handed in is changed, told things are new, questions are answered alike."""

import copy
import unittest

from fewways.errors import FewError
from fewways.trial import counted, fewest, least_parting, through_ends
from fewways.ways import is_parting, is_way, parting_along, plain, ties_along, written
from fewways.webs import is_web, parts, tied, web_of, without
from things import anything, bad_webs, refused

WEB = (5, ((0, 1), (0, 2), (1, 2), (2, 3)))
PARTING = ((4,), (3, 2), (1, 0))
QUESTIONS = [
    (is_web, (WEB,)), (web_of, (5, [(2, 1), (0, 1), (1, 2)])), (tied, (WEB, 2)), (parts, (WEB,)),
    (without, (WEB, (1, 3))), (is_way, (WEB, (1, 0))), (written, (WEB, (1, 0))), (is_parting, (WEB, PARTING)),
    (plain, (WEB, PARTING)), (ties_along, (WEB, PARTING)), (parting_along, (WEB, ((0, 1), (2, 3)))),
    (fewest, (WEB,)), (least_parting, (WEB,)), (counted, (WEB,)), (through_ends, (WEB,)),
    (through_ends, ((3, ((0, 1), (1, 2))),)),
]


def answer(call, handed):
    try:
        return call(*handed)
    except FewError as why:
        return type(why)


class Kept(unittest.TestCase):
    def test_answered_alike(self):
        told = [answer(call, handed) for call, handed in QUESTIONS]
        again = [answer(call, handed) for call, handed in reversed(QUESTIONS)]
        self.assertEqual(told, again[::-1])
        self.assertEqual([type(each) for each in told], [type(each) for each in again[::-1]])

    def test_nothing_handed_in_is_changed(self):
        for call, handed in QUESTIONS:
            before = copy.deepcopy(handed)
            answer(call, handed)
            self.assertEqual(handed, before, call)
            self.assertEqual(repr(handed), repr(before), call)

    def test_nothing_refused_is_changed(self):
        for thing in anything() + bad_webs():
            before = repr(thing)
            for call, handed in QUESTIONS:
                for at in range(len(handed)):
                    answer(call, handed[:at] + (thing,) + handed[at + 1:])
            self.assertEqual(repr(thing), before)

    def test_told_lists_and_dicts_are_the_askers_own(self):
        for call, handed in QUESTIONS:
            told = call(*handed)
            kept = copy.deepcopy(told)
            if isinstance(told, list):
                self.assertIsNot(call(*handed), told)
                told.append("more")
                told[0] = "other"
            if isinstance(told, dict):
                self.assertIsNot(call(*handed), told)
                told.clear()
            self.assertEqual(call(*handed), kept, call)

    def test_what_becomes_of_what_was_handed_in_changes_nothing(self):
        pairs = [(2, 1), (0, 1)]
        web = web_of(3, pairs)
        pairs.append((0, 2))
        pairs[0] = (0, 2)
        self.assertEqual(web, (3, ((0, 1), (1, 2))))
        self.assertEqual(web_of(3, pairs), (3, ((0, 1), (0, 2))))

    def test_what_was_told_may_be_handed_in_again(self):
        web = without(web_of(7, [(6, 0), (2, 1), (3, 6)]), (1, 4))
        self.assertEqual(web, (5, ((0, 4), (2, 4))))
        self.assertEqual(parting_along(web, ties_along(web, least_parting(web))), least_parting(web))

    def test_each_refusal_stands_under_few_error(self):
        for call, handed in QUESTIONS:
            if call is not is_web:
                with self.assertRaises(FewError):
                    call(*((None,) + handed[1:]))

    def test_a_refusal_leaves_later_answers_as_they_were(self):
        before = [answer(call, handed) for call, handed in QUESTIONS]
        for call, handed in QUESTIONS:
            if call is not is_web:
                refused(self, answer(call, (None,) + handed[1:]), call, *((None,) + handed[1:]))
        self.assertEqual([answer(call, handed) for call, handed in QUESTIONS], before)


if __name__ == "__main__":
    unittest.main()
