"""Points 3.1 to 3.6: people, their jobs, and who can be hired."""

import unittest

from bothfree.errors import BadJobs, BadLot, BadThings, NoThing, TooMany
from bothfree.families import Family
from bothfree.hires import Hires, hire, hire_most, hires_family, other_side, short
from tests.helpers import NAMES, Telling, bakers, can_be_hired, lots_of, some_hires

MORE = ["j" + name for name in NAMES]


def jobs_of_all(hires, people):
    return sorted({job for person in people for job in hires.jobs_of(person)})


class Point_3_1(unittest.TestCase, Telling):
    def test_no_people_and_people_without_jobs(self):
        self.assertEqual(Hires([], {}).people(), [])
        hires = Hires(["b", "a"], {"a": [], "b": ["a"]})
        self.assertEqual((hires.people(), hires.jobs_of("a"), hires.jobs_of("b")), (["a", "b"], [], ["a"]))

    def test_24_people_and_25(self):
        self.assertEqual(len(Hires(NAMES[:24], {name: [] for name in NAMES[:24]}).people()), 24)
        self.raises(BadThings(-1), Hires, NAMES[:25], {})
        self.raises(BadThings(-1), Hires, ["a"] * 25, {"x": ["", ""]})
        self.raises(BadThings(23), Hires, NAMES[:23] + ["a"], {})

    def test_wrong_people(self):
        self.raises(BadThings(0), Hires, ["", "a", "a"], {})
        self.raises(BadThings(1), Hires, ["a", "a", ""], {"b": []})
        self.raises(BadThings(2), Hires, ["a", "b", "abcdefghi"], {"b": []})

    def test_people_and_keys_must_be_the_same(self):
        self.raises(BadJobs("b"), Hires, ["a", "b"], {"a": []})
        self.raises(BadJobs("c"), Hires, ["a", "b"], {"a": [], "b": [], "c": []})
        self.raises(BadJobs("a"), Hires, ["a", "c"], {"b": []})
        self.raises(BadJobs("A"), Hires, ["a", "c"], {"A": []})
        self.raises(BadJobs(""), Hires, [], {"x": [], "": []})

    def test_wrong_jobs(self):
        for jobs in (["A"], [""], ["abcdefghi"], ["x", "y", "x"], ["x", "y z"], MORE[:25], ["x"] * 25):
            self.raises(BadJobs("b"), Hires, ["a", "b", "c"], {"a": ["x"], "b": jobs, "c": [""]})

    def test_24_jobs_of_one_person(self):
        self.assertEqual(Hires(["a"], {"a": MORE[23::-1]}).jobs_of("a"), MORE[:24])
        self.raises(BadJobs("a"), Hires, ["a"], {"a": MORE[:25]})

    def test_the_least_wrong_string_is_told(self):
        self.raises(BadJobs("b"), Hires, ["d", "c", "b"], {"b": ["x", "x"], "c": [""], "e": []})
        self.raises(BadJobs("a"), Hires, ["d", "c", "b"], {"b": ["x", "x"], "c": [""], "a": []})

    def test_a_job_may_have_the_name_of_a_person(self):
        hires = Hires(["a", "b"], {"a": ["b"], "b": ["a", "b"]})
        self.assertEqual(hire(hires, ["b", "a"]), {"a": "b", "b": "a"})


class Point_3_2(unittest.TestCase, Telling):
    def test_people_and_jobs_are_sorted(self):
        hires = Hires(["cat", "ann"], {"cat": ["x", "a", "m"], "ann": []})
        self.assertEqual(hires.people(), ["ann", "cat"])
        self.assertEqual((hires.jobs_of("cat"), hires.jobs_of("ann")), (["a", "m", "x"], []))

    def test_jobs_of_nobody(self):
        for name in ("bake", "", "Ann", "dan"):
            self.raises(NoThing(name), bakers().jobs_of, name)

    def test_equal_hires(self):
        hires = Hires(["a", "b"], {"a": ["x", "y"], "b": []})
        self.assertTrue(hires == Hires(["b", "a"], {"b": [], "a": ["y", "x"]}))
        self.assertFalse(hires != Hires(["b", "a"], {"b": [], "a": ["y", "x"]}))
        for other in (Hires(["a"], {"a": ["x", "y"]}), Hires(["a", "b"], {"a": ["x"], "b": []}),
                      Hires(["a", "b"], {"a": [], "b": ["x", "y"]}), Hires(["a", "c"], {"a": ["x", "y"], "c": []})):
            self.assertFalse(hires == other)
            self.assertTrue(hires != other)

    def test_methods_stand_in_the_class_itself(self):
        for name in ("people", "jobs_of", "__eq__"):
            self.assertIn(name, vars(Hires))


class Point_3_3(unittest.TestCase):
    def test_those_lots_are_free_that_can_be_hired(self):
        for hires in some_hires():
            family = hires_family(hires)
            self.assertIsInstance(family, Family)
            self.assertEqual(family.things(), hires.people())
            for lot in lots_of(hires.people()):
                self.assertIs(family.is_free(lot), can_be_hired(hires, lot))

    def test_document_example(self):
        family = hires_family(bakers())
        self.assertEqual((family.rank(["ann", "bob", "cat"]), family.base()), (2, ["ann", "cat"]))

    def test_people_without_jobs_are_stuck(self):
        family = hires_family(Hires(["a", "b"], {"a": [], "b": ["x"]}))
        self.assertEqual((family.stuck(), family.sure()), (["a"], ["b"]))


class Point_3_4(unittest.TestCase, Telling):
    def test_document_example(self):
        hires = bakers()
        self.assertEqual(hire(hires, ["cat", "ann"]), {"ann": "bake", "cat": "cook"})
        self.assertEqual(short(hires, ["ann", "bob", "cat"]), (["ann", "bob"], ["bake"]))
        self.assertIsNone(hire(hires, ["ann", "bob", "cat"]))
        self.assertIsNone(short(hires, ["cat", "ann"]))

    def test_the_empty_lot_can_be_hired(self):
        self.assertEqual((hire(bakers(), []), short(bakers(), [])), ({}, None))

    def test_somebody_without_jobs_is_short_alone(self):
        hires = Hires(["a", "b"], {"a": ["x"], "b": []})
        self.assertEqual(short(hires, ["b", "a"]), (["b"], []))

    def test_others_change_jobs_where_that_helps(self):
        people = NAMES[:12]
        jobs = {people[at]: [MORE[at], MORE[at + 1]] for at in range(11)}
        jobs["l"] = [MORE[0]]
        given = hire(Hires(people, jobs), people)
        self.assertEqual(given, {"l": MORE[0], **{people[at]: MORE[at + 1] for at in range(11)}})

    def test_every_lot_is_hired_or_short(self):
        for hires in some_hires():
            for lot in lots_of(hires.people()):
                given = hire(hires, lot[::-1])
                lack = short(hires, lot[::-1])
                if can_be_hired(hires, lot):
                    self.assertIsNone(lack)
                    self.assert_given(hires, given, lot)
                else:
                    self.assertIsNone(given)
                    self.assertIsInstance(lack, tuple)
                    people, jobs = lack
                    self.assertEqual(people, [person for person in lot if person in people])
                    self.assertEqual(jobs, jobs_of_all(hires, people))
                    self.assertLess(len(jobs), len(people))

    def assert_given(self, hires, given, people):
        self.assertEqual(sorted(given), sorted(people))
        self.assertEqual(len(set(given.values())), len(given))
        for person, job in given.items():
            self.assertIn(job, hires.jobs_of(person))

    def test_the_greatest_hires(self):
        hires = Hires(NAMES[:24], {name: MORE[:24] for name in NAMES[:24]})
        self.assert_given(hires, hire(hires, NAMES[:24]), NAMES[:24])
        hires = Hires(NAMES[:24], {name: MORE[:23] for name in NAMES[:24]})
        self.assertEqual(short(hires, NAMES[:24]), (NAMES[:24], MORE[:23]))

    def test_wrong_lots(self):
        for ask in (hire, short, hire_most):
            self.raises(BadLot(0), ask, bakers(), ["bake", "ann"])
            self.raises(BadLot(1), ask, bakers(), ["bob", "bob", "dan"])
            self.raises(BadLot(2), ask, bakers(), ["bob", "ann", "bob"])


class Point_3_5(unittest.TestCase):
    def test_both_parts_show_each_other(self):
        for hires in some_hires():
            family = hires_family(hires)
            for lot in lots_of(hires.people()):
                told = hire_most(hires, lot[::-1])
                self.assertIsInstance(told, tuple)
                given, people = told
                Point_3_4.assert_given(self, hires, given, list(given))
                self.assertTrue(set(given) <= set(lot))
                self.assertEqual(people, [person for person in lot if person in people])
                self.assertEqual(len(given), len(lot) - len(people) + len(jobs_of_all(hires, people)))
                self.assertEqual(len(given), family.rank(lot))

    def test_document_example(self):
        given, people = hire_most(bakers(), ["cat", "bob", "ann"])
        self.assertEqual(len(given), 2)
        self.assertEqual(given["cat"], "cook")
        self.assertIn(people, (["ann", "bob"], ["ann", "bob", "cat"]))
        self.assertEqual(hire_most(bakers(), []), ({}, []))

    def test_several_groups_of_people_are_short(self):
        jobs = {"a": ["x"], "b": ["x"], "c": ["y"], "d": ["y"], "e": [], "f": ["z", "y"]}
        given, people = hire_most(Hires(list(jobs), jobs), list(jobs))
        self.assertEqual((len(given), set(people) >= {"a", "b", "c", "d", "e"}), (3, True))


class Point_3_6(unittest.TestCase, Telling):
    def test_people_and_jobs_change_sides(self):
        turned = other_side(bakers())
        self.assertTrue(turned == Hires(["bake", "cook"], {"bake": ["ann", "bob", "cat"], "cook": ["cat"]}))
        self.assertTrue(other_side(Hires([], {})) == Hires([], {}))
        self.assertTrue(other_side(Hires(["a"], {"a": []})) == Hires([], {}))

    def test_the_ranks_of_all_are_the_same(self):
        for hires in some_hires():
            turned = other_side(hires)
            self.assertEqual(turned.people(), jobs_of_all(hires, hires.people()))
            for job in turned.people():
                self.assertEqual(turned.jobs_of(job), [who for who in hires.people() if job in hires.jobs_of(who)])
            ranks = [hires_family(side).rank(side.people()) for side in (hires, turned)]
            self.assertEqual(ranks[0], ranks[1])

    def test_24_jobs_of_all_and_25(self):
        hires = Hires(["a", "b"], {"a": MORE[:20], "b": MORE[10:24]})
        self.assertEqual(other_side(hires).people(), MORE[:24])
        self.assertEqual(other_side(hires).jobs_of("jk"), ["a", "b"])
        self.raises(TooMany(24), other_side, Hires(["a", "b"], {"a": MORE[:20], "b": MORE[10:25]}))
