"""Point 1 and the interface, over the whole program."""

import copy
import importlib
import inspect
import unittest

from samples import assert_told_anew, grown, large_hedges, lists_within, lot_of, renumbered, row, star

from hedgerow.codes import code
from hedgerow.ladders import ladder
from hedgerow.numbers import struck
from hedgerow.texts import shown

FORK = (7, [(0, 3), (1, 3), (2, 5), (3, 4), (4, 5), (5, 6)])

INTERFACE = {
    "hedges": ["checked(hedge)", "neighbours(hedge)", "tips(hedge)", "way(hedge, one, other)", "lengths(hedge, knot)"],
    "texts": ["shown(hedge)", "read(text)"],
    "middles": ["reaches(hedge)", "middle(hedge)", "long_way(hedge)"],
    "balance": ["sums(hedge)", "balance(hedge)", "heaviest(hedge, knot)", "spread(hedge)"],
    "codes": ["code_from(hedge, knot)", "code(hedge)", "read_code(text)", "settled(hedge)"],
    "likeness": ["likeness(one, other)", "turnings(hedge)", "sorts(hedge)"],
    "shapes": ["shapes(many)"],
    "numbers": ["struck(hedge)", "hedge_of(many, numbers)"],
    "deeds": ["hung(hedge, knot)", "cut_off(hedge, knot)", "joined(one, knot, other, place)", "parted(hedge, at)"],
    "pairing": ["pairs(hedge)", "guards(hedge)"],
    "parts": ["cut(hedge, room)", "parts(hedge, places)"],
    "wardens": ["wardens(hedge)", "lonely(hedge)"],
    "nets": ["net(hedge, knots)", "gate(hedge, one, other, third)"],
    "ladders": ["ladder(hedge)", "above(rungs, knot)", "first_common(rungs, one, other)"],
    "marks": ["marked_code(hedge, marks)", "marked_likeness(one, marks, other, others)"],
    "counts": ["apart_sets(hedge)", "greatest_apart(hedge)", "colourings(hedge, colours)", "coloured(hedge)"],
}


def functions():
    """All functions of the interface by their names."""
    found = {}
    for file, rows in INTERFACE.items():
        module = importlib.import_module("hedgerow." + file)
        for line in rows:
            name = line.partition("(")[0]
            found[name] = getattr(module, name)
    return found


def other_order(hedge):
    return renumbered(hedge, lot_of(hedge[0], 3))


def given_for(name, hedge):
    """What is handed to a function for a hedge of two or more knots, 40 at most."""
    last = hedge[0] - 1
    marks = ["ab"[knot % 2] for knot in range(hedge[0])]
    tip = [knot for knot in range(hedge[0]) if sum(knot in rod for rod in hedge[1]) == 1][0]
    smaller = (hedge[0] - 1, row(hedge[0] - 1)[1])
    special = {
        "way": (hedge, 0, last), "read": (shown(hedge),), "read_code": (code(hedge),),
        "likeness": (hedge, other_order(hedge)), "shapes": (min(hedge[0], 8),),
        "hedge_of": (hedge[0], struck(hedge)), "hung": (smaller, 0), "cut_off": (hedge, tip),
        "joined": ((1, []), 0, smaller, 0), "parted": (hedge, last - 1), "cut": (hedge, 2),
        "parts": (hedge, list(range(0, last, 2))), "net": (hedge, list(range(0, last + 1, 2)) + [last]),
        "gate": (hedge, 0, 1, last), "above": (ladder(hedge), last), "first_common": (ladder(hedge), 0, last),
        "marked_code": (hedge, marks), "marked_likeness": (hedge, marks, copy.deepcopy(hedge), list(marks)),
        "colourings": (hedge, 3),
    }
    if name in special:
        return special[name]
    if name in ("lengths", "heaviest", "code_from"):
        return (hedge, last)
    return (hedge,)


class InterfaceTest(unittest.TestCase):
    def test_names_and_arguments_are_there_as_they_stand(self):
        told = functions()
        for file, rows in INTERFACE.items():
            for line in rows:
                name = line.partition("(")[0]
                self.assertEqual(name + str(inspect.signature(told[name])), line)
                self.assertEqual(told[name].__module__, "hedgerow." + file)

    def test_arguments_may_be_handed_in_by_name(self):
        for name, ask in functions().items():
            given = given_for(name, FORK)
            by_name = dict(zip(inspect.signature(ask).parameters, given))
            self.assertEqual(ask(**by_name), ask(*given), name)


class NothingKeptTest(unittest.TestCase):
    def test_what_is_told_is_new_with_the_lists_within_and_what_is_handed_in_stays(self):
        for hedge in [(2, [(0, 1)]), FORK, row(40), star(40), grown(40, 2)]:
            for name, ask in functions().items():
                with self.subTest(name=name, hedge=hedge):
                    assert_told_anew(self, ask, *copy.deepcopy(given_for(name, hedge)))

    def test_one_knot(self):
        alone = ["checked", "neighbours", "tips", "lengths", "shown", "reaches", "middle", "long_way", "sums", "balance",
                 "heaviest", "spread", "code_from", "code", "settled", "turnings", "sorts", "pairs", "guards", "wardens",
                 "lonely", "ladder", "apart_sets", "greatest_apart", "coloured"]
        told = functions()
        for name in alone:
            takes_knot = "knot" in inspect.signature(told[name]).parameters
            assert_told_anew(self, told[name], *([(1, []), 0] if takes_knot else [(1, [])]))

    def test_other_calls_between_change_nothing(self):
        told = functions()
        before = {name: copy.deepcopy(ask(*given_for(name, FORK))) for name, ask in told.items()}
        for hedge in large_hedges():
            for name, ask in told.items():
                ask(*given_for(name, hedge))
        for name, ask in told.items():
            self.assertEqual(ask(*given_for(name, FORK)), before[name], name)

    def test_modules_keep_no_lists(self):
        for file in INTERFACE:
            module = importlib.import_module("hedgerow." + file)
            for name, value in vars(module).items():
                if not name.startswith("__"):
                    self.assertNotIsInstance(value, (list, dict, set), name)

    def test_the_lists_of_a_told_hedge_are_not_those_handed_in(self):
        told = functions()
        for name in ["checked", "settled", "hung", "cut_off", "joined", "parted", "hedge_of"]:
            given = given_for(name, FORK)
            handed = {id(one) for one in lists_within(given)}
            self.assertFalse(handed & {id(one) for one in lists_within(told[name](*given))}, name)


if __name__ == "__main__":
    unittest.main()
