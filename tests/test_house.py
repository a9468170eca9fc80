"""The house: [26]."""

import unittest

from showhouse.books import Book
from showhouse.errors import BadDeeds, BadEntry, BadName, BadSize, Busy, NoDeed, TooMuch
from showhouse.house import House
from tests.booking import ADD, FIRST, FLAGS, KIND, LISTS, OPENED, base, by_saying, commutes, say, shift, sums, told
from tests.judging import NAT_A, add_zero
from tests.samples import A, ADD_ROWS, NAT, NO_NAMES, ZERO, chain


def word(name):
    return say(name, {}, [], ZERO, ZERO, chain())


class Keeping(unittest.TestCase):
    def setUp(self):
        self.house = House(Book(sums()))

    def all_told(self):
        """All that the house tells, but for its log."""
        house = self.house
        return house.book(), house.editions(), house.deeds(), told(house.book())

    def has(self, *entries):
        self.assertEqual(self.house.book(), Book(list(entries)))
        self.assertEqual(told(self.house.book()), told(Book(list(entries))))


class Deeds(Keeping):
    def test_a_new_house(self):
        house = House(Book([]))
        self.assertEqual((house.book(), house.editions(), house.deeds(), house.log()), (Book([]), [Book([])], 0, []))

    def test_put_at_the_end(self):
        self.assertEqual(self.house.put(LISTS), [])
        self.has(*sums(), LISTS)
        self.assertEqual(self.house.put(base(name="more"), at=None), ["more"])
        self.has(*sums(), LISTS, base(name="more"))

    def test_put_at_each_place(self):
        for at in range(6):
            house = House(Book(sums()))
            self.assertEqual(house.put(LISTS, at=at), ["shift"] if 1 <= at < 4 else [])
            entries = sums()
            entries.insert(at, LISTS)
            self.assertEqual(house.book(), Book(entries))
            self.assertEqual(told(house.book()), told(Book(entries)))

    def test_put_what_the_world_does_not_accept(self):
        self.assertEqual(self.house.put(("kind", "more", NAT)), [])
        self.assertEqual(self.house.book().states()[-1], ("more", "none"))

    def test_take(self):
        self.assertEqual(self.house.take("base"), ["shift", "swap"])
        self.has(KIND, ADD, shift(), commutes())
        self.assertEqual(self.house.take("swap"), [])
        self.assertEqual(self.house.take("nat"), [])
        self.has(ADD, shift())

    def test_change_to_another_content(self):
        self.assertEqual(self.house.change("base", base(OPENED)), ["base"])
        self.has(KIND, ADD, base(OPENED), shift(), commutes())
        self.assertEqual(self.house.book().states()[-1], ("swap", "leans"))
        self.assertEqual(self.house.change("nat", ("kind", "nat", [NAT[1], NAT[0]])), ["base", "shift", "swap"])
        self.assertEqual(self.house.change("nat", KIND), ["base", "shift", "swap"])
        self.has(KIND, ADD, base(OPENED), shift(), commutes())

    def test_change_to_another_name(self):
        self.assertEqual(self.house.change("base", base(name="zeros")), ["zeros", "shift", "swap"])
        self.has(KIND, ADD, base(name="zeros"), shift(), commutes())
        self.assertEqual(self.house.change("nat", LISTS), [])
        self.assertEqual([state for _, state in self.house.book().states()], ["none"] * 5)

    def test_change_to_the_same(self):
        self.assertEqual(self.house.change("base", base()), [])
        self.assertEqual(self.house.deeds(), 1)
        self.has(*sums())

    def test_change_of_the_order_of_dicts(self):
        showing = add_zero()
        turned = showing[:2] + ({builder: showing[2][builder] for builder in ("next", "zero")},)
        self.assertEqual(self.house.change("base", base(turned)), [])
        self.assertEqual(list(self.house.book().showing("base")[2]), ["next", "zero"])
        self.assertEqual(self.house.undo(), [])
        self.assertEqual(list(self.house.book().showing("base")[2]), ["zero", "next"])

    def test_together(self):
        self.assertEqual(self.house.together([]), [])
        self.has(*sums())
        self.assertEqual(self.house.deeds(), 1)
        names = self.house.together([
            ("put", LISTS, 1), ("put", FLAGS, None), ("take", "swap"), ("change", "base", base(OPENED)),
        ])
        self.assertEqual(names, ["base", "shift"])
        self.has(KIND, LISTS, ADD, base(OPENED), shift(), FLAGS)
        self.assertEqual((self.house.deeds(), len(self.house.editions())), (2, 3))

    def test_deeds_that_build_on_one_another(self):
        names = self.house.together([
            ("take", "base"), ("put", base(name="other"), 2), ("change", "other", base()), ("put", word("other"), None),
            ("change", "swap", LISTS), ("take", "list"), ("put", commutes(), 4),
        ])
        self.assertEqual(names, ["other"])
        self.has(*sums(), word("other"))

    def test_more_than_thirty_in_between(self):
        many = [word("s" + letter + other) for letter in "abcde" for other in "abcde"]
        self.house.together([("put", entry, None) for entry in many])
        self.assertEqual(len(self.house.book().entries()), 30)
        with self.assertRaises(TooMuch):
            self.house.together([("put", LISTS, None), ("take", "base")])
        self.house.together([("take", "base"), ("put", LISTS, None)])
        self.assertEqual(len(self.house.book().entries()), 30)

    def test_undo_of_each(self):
        before = self.all_told()
        for deed, names in (
            (lambda: self.house.put(LISTS, at=1), ["shift"]), (lambda: self.house.take("base"), ["base", "shift", "swap"]),
            (lambda: self.house.change("base", base(OPENED)), ["base"]),
            (lambda: self.house.together([("take", "swap"), ("take", "shift")]), ["shift", "swap"]),
            (lambda: self.house.together([]), []), (lambda: self.house.take("swap"), ["swap"]),
        ):
            deed()
            self.assertEqual(self.house.undo(), names)
            self.assertEqual(self.all_told(), before)

    def test_undo_of_several_in_a_row(self):
        told_ahead = []
        for deed in (lambda: self.house.put(LISTS, at=0), lambda: self.house.take("base"), lambda: self.house.put(FLAGS),
                     lambda: self.house.change("nat", ("kind", "nat", NAT[:1]))):
            told_ahead.append(self.all_told())
            deed()
        for expected in reversed(told_ahead):
            self.house.undo()
            self.assertEqual(self.all_told(), expected)
        with self.assertRaises(NoDeed):
            self.house.undo()

    def test_undo_and_go_on(self):
        self.house.put(LISTS)
        self.house.put(FLAGS)
        self.house.undo()
        self.house.take("swap")
        self.assertEqual(self.house.editions(), [Book(sums()), Book([*sums(), LISTS]), Book([*sums()[:-1], LISTS])])
        self.house.undo()
        self.house.undo()
        self.has(*sums())

    def test_what_the_deeds_return_is_new(self):
        names = self.house.take("base")
        names.clear()
        self.assertEqual(self.house.undo(), ["base", "shift", "swap"])


class Editions(Keeping):
    def test_editions_deeds_and_log(self):
        self.house.put(LISTS)
        self.house.take("swap")
        self.assertEqual(self.house.editions(), [Book(sums()), Book([*sums(), LISTS]), Book([*sums()[:-1], LISTS])])
        self.assertEqual(self.house.editions()[-1], self.house.book())
        self.assertEqual(self.house.deeds(), 2)
        self.assertEqual(self.house.log(), [("in", 0), ("out", 1), ("in", 1), ("out", 2)])
        self.house.undo()
        self.assertEqual(self.house.log()[4:], [("in", 2), ("out", 1)])
        self.assertEqual((self.house.deeds(), len(self.house.editions())), (1, 2))

    def test_rejected_deeds_are_in_the_log(self):
        self.house.put(LISTS)
        for deed in (lambda: self.house.put(None), lambda: self.house.take("what"), lambda: self.house.change("nat", None),
                     lambda: self.house.together(None), lambda: self.house.put(LISTS)):
            at = len(self.house.log())
            with self.assertRaises(ValueError):
                deed()
            self.assertEqual(self.house.log()[at:], [("in", 1), ("out", 1)])
        house = House(Book([]))
        with self.assertRaises(NoDeed):
            house.undo()
        self.assertEqual(house.log(), [("in", 0), ("out", 0)])

    def test_what_is_told_is_new(self):
        self.house.put(LISTS)
        before = self.all_told()
        self.house.editions().clear()
        self.house.log().clear()
        self.assertEqual(self.all_told(), before)
        self.assertEqual(self.house.log(), [("in", 0), ("out", 1)])

    def test_entries_that_are_changed_behind(self):
        entry = base(add_zero(), "other")
        kind = ("kind", "list", list(LISTS[2]))
        self.house.put(entry)
        self.house.change("other", base(entry[2], "third"))
        self.house.together([("put", kind, None)])
        before = self.all_told()
        entry[2][2].clear()
        kind[2].clear()
        self.assertEqual(self.all_told(), before)
        self.has(*sums(), base(name="third"), LISTS)


class Refusals(Keeping):
    def refused(self, error, deed):
        before = self.all_told()
        log = self.house.log()
        with self.assertRaises(error) as caught:
            deed()
        self.assertIs(type(caught.exception), error)
        if error is BadEntry:
            self.assertEqual(caught.exception.at, 0)
        self.assertEqual(self.all_told(), before)
        self.assertEqual(self.house.log(), log + [("in", before[2]), ("out", before[2])])

    def full(self):
        many = [word("s" + letter + other) for letter in "abcde" for other in "abcde"]
        self.house = House(Book(sums() + many))

    def test_put(self):
        bad = (None, (), ("kind",), ("kind", "nat", tuple(NAT)), ("say", base()[1], None), swap_of("nat"), "nat", [KIND], 0)
        for entry in bad:
            self.refused(BadEntry, lambda: self.house.put(entry))
            self.refused(BadEntry, lambda: self.house.put(entry, at=99))
        for at in (-1, 6, True, False, "0", (), [], 1000):
            self.refused(BadSize, lambda: self.house.put(LISTS, at=at))
            self.refused(BadSize, lambda: self.house.put(base(), at=at))
        for entry in sums():
            self.refused(BadName, lambda: self.house.put(entry))
            self.refused(BadName, lambda: self.house.put(entry, at=5))
        self.full()
        self.refused(TooMuch, lambda: self.house.put(LISTS))
        self.refused(TooMuch, lambda: self.house.put(LISTS, at=30))
        self.refused(BadSize, lambda: self.house.put(LISTS, at=31))
        self.refused(BadName, lambda: self.house.put(base()))
        self.refused(BadEntry, lambda: self.house.put(None, at=31))

    def test_put_takes_the_others_by_keyword(self):
        with self.assertRaises(TypeError):
            self.house.put(LISTS, 0)

    def test_take(self):
        for name in ("what", "zero", "next", "a", *NO_NAMES, KIND):
            self.refused(BadName, lambda: self.house.take(name))
        self.house.take("swap")
        self.refused(BadName, lambda: self.house.take("swap"))

    def test_change(self):
        for name in ("what", "zero", *NO_NAMES):
            self.refused(BadName, lambda: self.house.change(name, LISTS))
            self.refused(BadName, lambda: self.house.change(name, None))
        for entry in (None, (), ("kind",), ("kind", "nat", tuple(NAT)), ("say", base()[1], None), "nat"):
            self.refused(BadEntry, lambda: self.house.change("nat", entry))
        for entry in sums()[1:]:
            self.refused(BadName, lambda: self.house.change("nat", entry))
        self.refused(BadName, lambda: self.house.change("swap", base()))
        self.full()
        self.assertEqual(self.house.change("swap", LISTS), [])

    def test_together(self):
        for deeds in (None, True, 0, "", (), {}, (("take", "base"),), "take", object()):
            self.refused(BadDeeds, lambda: self.house.together(deeds))
        for deed in (None, "take", (), [], ["take", "base"], ("take",), ("take", "base", None), ("put", LISTS), ("put",),
                     ("put", LISTS, None, None), ("change", "base"), ("change", "base", base(), None), ("undo",), ("undo", 1),
                     ("Take", "base"), (None, "base"), (["take"], "base"), (0, 1), ("together", []), ("kind", "list", LISTS[2])):
            self.refused(BadDeeds, lambda: self.house.together([deed]))
            # The words and numbers are checked ahead of all else.
            self.refused(BadDeeds, lambda: self.house.together([("take", "what"), deed]))
            self.refused(BadDeeds, lambda: self.house.together([("put", None, None), ("take", "base"), deed]))

    def test_each_of_several_deeds_as_it_is_performed(self):
        self.refused(BadEntry, lambda: self.house.together([("put", None, 99)]))
        self.refused(BadEntry, lambda: self.house.together([("take", "base"), ("put", None, 99), ("take", "what")]))
        self.refused(BadSize, lambda: self.house.together([("put", LISTS, 6)]))
        self.refused(BadSize, lambda: self.house.together([("take", "base"), ("put", LISTS, 5)]))
        self.refused(BadSize, lambda: self.house.together([("put", base(), 6), ("put", None, 0)]))
        self.refused(BadSize, lambda: self.house.together([("put", LISTS, True)]))
        self.refused(BadName, lambda: self.house.together([("put", LISTS, 0), ("put", LISTS, 0)]))
        self.refused(BadName, lambda: self.house.together([("take", "base"), ("take", "base")]))
        self.refused(BadName, lambda: self.house.together([("take", "base"), ("change", "base", base())]))
        self.refused(BadName, lambda: self.house.together([("change", "base", LISTS), ("change", "nat", LISTS)]))
        self.refused(BadEntry, lambda: self.house.together([("change", "base", None)]))
        self.refused(BadName, lambda: self.house.together([("change", "what", None)]))
        self.refused(BadName, lambda: self.house.together([("take", ["base"])]))
        self.full()
        self.refused(TooMuch, lambda: self.house.together([("put", LISTS, None), ("take", "base")]))
        self.refused(BadName, lambda: self.house.together([("put", base(), None)]))

    def test_undo(self):
        self.refused(NoDeed, lambda: self.house.undo())
        self.house.put(LISTS)
        self.house.undo()
        self.refused(NoDeed, lambda: self.house.undo())


def swap_of(name):
    return ("say", name, chain())


class Spoiled(Exception):
    pass


class Listening(Keeping):
    def test_each_name_ahead_of_its_judgement(self):
        heard = []
        self.assertEqual(self.house.take("base", heard=heard.append), heard)
        self.assertEqual(heard, ["shift", "swap"])
        self.house.undo(heard=heard.append)
        self.assertEqual(heard[2:], ["base", "shift", "swap"])
        self.house.change("shift", shift(OPENED), heard=heard.append)
        self.assertEqual(heard[5:], ["shift"])
        self.house.put(LISTS, heard=heard.append)
        self.assertEqual(len(heard), 6)
        self.house.put(by_saying("other", "base"), heard=heard.append)
        self.house.together([("take", "other"), ("put", by_saying("last", "base"), None)], heard=heard.append)
        self.assertEqual(heard[6:], ["other", "last"])

    def test_the_house_is_told_as_it_was_before_the_deed(self):
        self.house.put(LISTS)
        before = self.all_told()
        heard = []

        def listen(name):
            self.assertEqual(self.all_told(), before)
            self.assertEqual(self.house.log(), log + [("in", before[2])])
            heard.append(name)

        for deed in (lambda: self.house.take("nat", heard=listen), lambda: self.house.take("base", heard=listen),
                     lambda: self.house.put(FLAGS, at=0, heard=listen), lambda: self.house.change("base", base(OPENED), heard=listen),
                     lambda: self.house.together([("take", "swap"), ("take", "base")], heard=listen)):
            log = self.house.log()
            deed()
            before = self.all_told()
            log = self.house.log()
            self.house.undo(heard=listen)
            before = self.all_told()
        self.assertGreater(len(heard), 10)

    def test_a_deed_in_the_listener_is_busy(self):
        def listen(name):
            for deed in (lambda: self.house.put(FLAGS), lambda: self.house.put(None), lambda: self.house.take("what"),
                         lambda: self.house.change("what", None), lambda: self.house.together(None),
                         lambda: self.house.together([]), lambda: self.house.undo()):
                with self.assertRaises(Busy):
                    deed()
            heard.append(name)

        heard = []
        self.assertEqual(self.house.take("base", heard=listen), ["shift", "swap"])
        self.assertEqual(heard, ["shift", "swap"])
        self.has(KIND, ADD, shift(), commutes())
        self.assertEqual(self.house.log(), [("in", 0), ("out", 1)])
        self.assertEqual(self.house.put(FLAGS), [])
        self.assertEqual(self.house.log(), [("in", 0), ("out", 1), ("in", 1), ("out", 2)])

    def test_busy_that_is_not_caught_ends_the_deed(self):
        before = self.all_told()
        with self.assertRaises(Busy):
            self.house.take("base", heard=lambda name: self.house.put(FLAGS))
        self.assertEqual(self.all_told(), before)
        self.assertEqual(self.house.log(), [("in", 0), ("out", 0)])
        self.assertEqual(self.house.take("swap"), [])

    def test_whatever_the_listener_raises_is_passed_on(self):
        self.house.put(LISTS)
        before = self.all_told()
        for error in (Spoiled("x"), KeyError("x"), BadEntry(7), BadName("x"), NoDeed("x"), KeyboardInterrupt(), StopIteration()):
            for ending in ("base", "shift", "swap"):
                def listen(name):
                    heard.append(name)
                    if name == ending:
                        raise error

                for deed in (lambda: self.house.change("nat", ("kind", "nat", [NAT[1], NAT[0]]), heard=listen),
                             lambda: self.house.together([("take", "add"), ("put", ADD, 1), ("take", "base"), ("put", base(
                                 chain()), 2), ("change", "nat", ("kind", "nat", [NAT[1], NAT[0]]))], heard=listen)):
                    heard = []
                    log = self.house.log()
                    with self.assertRaises(type(error)) as caught:
                        deed()
                    self.assertIs(caught.exception, error)
                    self.assertEqual(heard[-1], ending)
                    self.assertEqual(self.all_told(), before)
                    self.assertEqual(self.house.log(), log + [("in", 1), ("out", 1)])
        self.assertEqual(self.house.change("nat", ("kind", "nat", [NAT[1], NAT[0]])), ["base", "shift", "swap"])

    def test_an_undo_that_is_ended(self):
        self.house.take("base")
        before = self.all_told()

        def listen(name):
            raise Spoiled(name)

        with self.assertRaises(Spoiled):
            self.house.undo(heard=listen)
        self.assertEqual(self.all_told(), before)
        self.assertEqual(self.house.log(), [("in", 0), ("out", 1), ("in", 1), ("out", 1)])
        self.assertEqual(self.house.undo(), ["base", "shift", "swap"])
        self.has(*sums())

    def test_nobody_is_heard_where_nothing_is_judged(self):
        def listen(name):
            raise Spoiled(name)

        self.house.put(LISTS, heard=listen)
        self.house.take("swap", heard=listen)
        with self.assertRaises(BadName):
            self.house.take("swap", heard=listen)
        self.assertEqual(self.house.deeds(), 2)

    def test_arguments_that_the_listener_changes(self):
        kind = ("kind", "nat", [NAT[1], NAT[0]])
        self.house.change("nat", kind, heard=lambda name: kind[2].clear())
        self.has(("kind", "nat", [NAT[1], NAT[0]]), *sums()[1:])
        self.assertEqual((ADD[4], NAT_A, A), (ADD_ROWS, {"a": "nat"}, ("hole", "a")))
        self.assertEqual(FIRST, [KIND, ADD])


if __name__ == "__main__":
    unittest.main()
