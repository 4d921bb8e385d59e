from itertools import product

from guardhopes import shelves
from guardhopes.errors import (
    Broken, InUse, InvalidDemand, InvalidIndex, InvalidName, NotAMachine, NothingToUndo, UnknownName)
from guardhopes.machines import Machine
from guardhopes.parts import guard, hope, opposite, recoloured
from guardhopes.shelves import Shelf
from tests.cases import Case
from tests.demands import (
    KINDS, TEXT_A, alike_in, demands_elsewhere, holds_in, no_demands_at_all, some_demands, within_in)
from tests.loops import disguised, mixed_machines, no_machines, one_state, word_of
from tests.values import Raises, SaysEqual, numbers_from, odd_values, some_values

RARE = Machine.read("machine ab\nstate 1 0 1\nstate 2 0 2\nstate 1 2 2")
SOME = Machine("ab", ((1, (1, 0)), (0, (1, 1))))
CALM = Machine("ab", ((0, (0, 1)), (1, (1, 1))))
EVERY, NOTHING = one_state("ab", 0), one_state("ab", 1)
NAMES = ("a", "z", "part", "whole", "abcdefgh", "a1234567", "b0", "alike", "within", "guard")
NO_NAMES = (
    "", "abcdefghi", "a12345678", "A", "aB", "1", "1a", "0", " ", "a ", " a", "a b", "a_b", "_", "a-b", "a\n", "\n",
    "a.", "~", "part whole")


class Stop(Exception):
    pass


def shelf_with(*demands, **machines):
    shelf = Shelf()
    for name, machine in machines.items():
        shelf[name] = machine
    for demand in demands:
        shelf.ask(demand)
    return shelf


def told(shelf):
    """All that a shelf tells."""
    return shelf.names, [str(shelf[name]) for name in shelf.names], shelf.demands, shelf.changes, len(shelf)


def undone(shelf):
    """All that a shelf tells behind each undo, until there is nothing more; takes all back in a trial."""
    rows = []

    def take_all(held):
        while True:
            held.undo()
            rows.append(told(held))

    try:
        shelf.tried(take_all)
    except NothingToUndo:
        return rows


def holds_there(machines, demand):
    """Whether a demand on a shelf holds, told anew from the document; False for one on other letters."""
    if len(demand) == 3:
        one, other = machines[demand[1]], machines[demand[2]]
        if one.letters != other.letters:
            return False
        return (alike_in if demand[0] == "alike" else within_in)(one, other)
    machine, asked = machines[demand[0]], demand[1]
    if asked[0] in ("in", "out", "bad", "good") and not set("".join(asked[1])) <= set(machine.letters):
        return False
    if asked[0] == "like" and asked[1].split()[1] != machine.letters:
        return False
    return holds_in(machine, asked)


class ShelfCase(Case):
    def assert_unchanged(self, shelf, kind, call):
        """The call raises an error of this kind, and all that the shelf tells and can take back is the same."""
        before = told(shelf), undone(shelf)
        error = self.raised_by(kind, call)
        self.assertEqual((told(shelf), undone(shelf)), before)
        return error

    def assert_refused(self, shelf, kind, value, call):
        self.assertIs(self.assert_unchanged(shelf, kind, call).given, value)

    def assert_stopped(self, shelf, kind, index, call):
        found = self.assert_unchanged(shelf, kind, call).index
        self.assertEqual(found, index)
        self.assertIs(type(found), int)


class DeedsTest(ShelfCase):
    def test_a_new_shelf(self):
        shelf = Shelf()
        self.assertEqual(told(shelf), ((), [], (), 0, 0))
        self.assertEqual(undone(shelf), [])
        self.assertIs("a" in shelf, False)

    def test_machines_under_names(self):
        shelf = Shelf()
        machines = {}
        for k, name in enumerate(NAMES):
            machine = (RARE, SOME, CALM, one_state("xyz", 3))[k % 4]
            shelf[name] = machine
            machines[name] = machine
            self.assertIs(shelf[name], machine)
            self.assertEqual(shelf.names, tuple(sorted(machines)))
            self.assertIs(type(shelf.names), tuple)
            self.assertEqual([len(shelf), shelf.changes, shelf.demands], [k + 1, k + 1, ()])
        for name in NAMES:
            self.assertIs(shelf[name], machines[name])
            self.assertIs(name in shelf, True)
        for name in NAMES[::2]:
            self.assertIsNone(shelf.remove(name))
            self.assertIs(name in shelf, False)
        self.assertEqual(shelf.names, tuple(sorted(NAMES[1::2])))
        self.assertEqual(shelf.changes, len(NAMES) + len(NAMES[::2]))

    def test_a_name_put_over_another_machine(self):
        shelf = shelf_with(a=RARE)
        shelf["a"] = SOME
        self.assertEqual([shelf["a"], len(shelf), shelf.changes], [SOME, 1, 2])
        shelf["a"] = one_state("xyz", 0)
        self.assertEqual([shelf["a"], shelf.names], [one_state("xyz", 0), ("a",)])
        # The same machine once more is a change, too.
        shelf["a"] = one_state("xyz", 0)
        self.assertEqual(shelf.changes, 4)
        texts = []
        for _ in range(3):
            shelf.undo()
            texts.append(shelf["a"])
        self.assertEqual(texts, [one_state("xyz", 0), SOME, RARE])
        shelf.undo()
        self.assertIs("a" in shelf, False)

    def test_demands_made_and_lifted(self):
        shelf = shelf_with(whole=RARE, part=guard(RARE))
        rows = (
            ("within", "whole", "part"), ("part", ("guard",)), ("whole", ("bad", "bb")), ("alike", "part", "part"),
            ("whole", ("in", ("", "ab"))), ("part", ("guard",)))
        for k, demand in enumerate(rows):
            self.assertIsNone(shelf.ask(demand))
            self.assertEqual(shelf.demands, rows[:k + 1])
            self.assertIs(type(shelf.demands), tuple)
        self.assertEqual(shelf.changes, 8)
        left = list(rows)
        for index in (2, 4, 0, 1, 1, 0):
            self.assertIsNone(shelf.lift(index))
            del left[index]
            self.assertEqual(shelf.demands, tuple(left))
        self.assertEqual([shelf.changes, shelf.demands], [14, ()])

    def test_undo_of_each_kind_of_change(self):
        shelf = Shelf()
        steps = [told(shelf)]

        def put(name, machine):
            shelf[name] = machine

        for deed in (
            lambda: put("a", RARE), lambda: put("b", guard(RARE)), lambda: put("a", guard(RARE)),
            lambda: shelf.ask(("alike", "a", "b")), lambda: shelf.ask(("a", ("guard",))), lambda: put("c", SOME),
            lambda: shelf.lift(0), lambda: put("b", EVERY), lambda: shelf.remove("b"), lambda: shelf.lift(0),
            lambda: shelf.remove("a"), lambda: shelf.remove("c"),
        ):
            deed()
            steps.append(told(shelf))
        self.assertEqual(undone(shelf), steps[-2::-1])
        for step in steps[-2::-1]:
            self.assertIsNone(shelf.undo())
            self.assertEqual(told(shelf), step)
        self.assert_unchanged(shelf, NothingToUndo, shelf.undo)
        self.raised_by(NothingToUndo, Shelf().undo)
        put("a", RARE)
        self.assertEqual([shelf.changes, shelf.names], [1, ("a",)])

    def test_what_was_told_stays_as_it_was(self):
        shelf = shelf_with(("a", ("again",)), a=RARE)
        names, demands = shelf.names, shelf.demands
        shelf["b"] = SOME
        shelf.lift(0)
        shelf.remove("a")
        self.assertEqual([names, demands], [("a",), (("a", ("again",)),)])

    def test_many_deeds_against_a_plain_model(self):
        numbers = numbers_from(161)
        names = ("a", "b", "c", "d")
        met = {}
        for _ in range(30):
            shelf, machines, demands, done = Shelf(), {}, [], []
            pool = mixed_machines(24, next(numbers))[2:]
            pool = [m for m in pool if m.letters in ("ab", "by")]
            pool += [guard(m) for m in pool] + [opposite(m) for m in pool[:3]] + [recoloured(m) for m in pool]
            for _ in range(40):
                name, other = names[next(numbers) % 4], names[next(numbers) % 4]
                machine = pool[next(numbers) % len(pool)]
                asked = some_demands(machine, numbers)
                after = dict(machines), list(demands)
                deed = next(numbers) % 7
                error = None
                if deed in (0, 1):
                    after[0][name] = machine
                    wrong = [k for k, one in enumerate(demands) if not holds_there(after[0], one)]
                    error = (Broken, wrong[0]) if wrong else None
                    error = self.error_of(lambda: shelf.__setitem__(name, machine)), error
                elif deed in (2, 3):
                    pair = (name, asked[next(numbers) % len(asked)])
                    demand = (pair, ("alike", name, other), ("within", name, other), pair)[next(numbers) % 4]
                    after[1].append(demand)
                    for one in (demand[1:] if len(demand) == 3 else demand[:1])[::-1]:
                        error = (UnknownName, one) if one not in machines else error
                    if error is None and not holds_there(machines, demand):
                        error = (Broken, len(demands))
                    error = self.error_of(lambda: shelf.ask(demand)), error
                elif deed == 4:
                    used = [k for k, one in enumerate(demands) if name in (one[1:] if len(one) == 3 else one[:1])]
                    error = (UnknownName, name) if name not in machines else (InUse, used[0]) if used else None
                    after[0].pop(name, None)
                    error = self.error_of(lambda: shelf.remove(name)), error
                elif deed == 5:
                    index = next(numbers) % 4
                    error = (InvalidIndex, index) if index >= len(demands) else None
                    after[1][index:index + 1] = []
                    error = self.error_of(lambda: shelf.lift(index)), error
                else:
                    error = (NothingToUndo, None) if not done else None
                    error = self.error_of(shelf.undo), error
                self.assertEqual(*error)
                met[deed, error[1] and error[1][0]] = True
                if error[1] is None and deed == 6:
                    machines, demands = done.pop()
                elif error[1] is None:
                    done.append((machines, demands))
                    machines, demands = after
                self.assertEqual(told(shelf), (
                    tuple(sorted(machines)), [str(machines[one]) for one in sorted(machines)], tuple(demands),
                    len(done), len(machines)))
        for deed, kind in (
            (0, Broken), (0, None), (2, UnknownName), (2, Broken), (2, None), (4, UnknownName), (4, InUse), (4, None),
            (5, InvalidIndex), (5, None), (6, NothingToUndo), (6, None),
        ):
            self.assertIn((deed, kind), met)

    def error_of(self, call):
        """The kind of the error that the call raises, with what it tells; None for none."""
        try:
            self.assertIsNone(call())
        except (UnknownName, InvalidIndex) as error:
            return type(error), error.given
        except (Broken, InUse) as error:
            return type(error), error.index
        except NothingToUndo as error:
            return type(error), None
        return None


class DemandsTest(ShelfCase):
    def test_each_form_for_each_machine(self):
        numbers = numbers_from(162)
        met = {}
        for machine in mixed_machines(60, 163):
            shelf = shelf_with(one=machine)
            for demand in some_demands(machine, numbers):
                truth = holds_in(machine, demand)
                met[demand[0], truth] = True
                if truth:
                    shelf.ask(("one", demand))
                else:
                    index = len(shelf.demands)
                    self.assert_index(Broken, index, lambda: shelf.ask(("one", demand)))
        self.assertEqual(len(met), 26)

    def test_alike_and_within(self):
        machines = [RARE, guard(RARE), hope(RARE), opposite(RARE), recoloured(RARE), SOME, CALM, EVERY, NOTHING]
        for one, other in product(machines, repeat=2):
            shelf = shelf_with(one=one, other=other)
            for form, call in (("alike", alike_in), ("within", within_in)):
                demand = (form, "one", "other")
                if call(one, other):
                    shelf.ask(demand)
                    self.assertEqual(shelf.demands[-1:], (demand,))
                else:
                    self.assert_stopped(shelf, Broken, len(shelf.demands), lambda: shelf.ask(demand))

    def test_machines_with_other_letters(self):
        for form, (one, other) in product(
            ("alike", "within"), product((one_state("ab", 0), one_state("abc", 0), one_state("bc", 0)), repeat=2)
        ):
            shelf = shelf_with(one=one, other=other)
            if one.letters == other.letters:
                shelf.ask((form, "one", "other"))
            else:
                self.assert_stopped(shelf, Broken, 0, lambda: shelf.ask((form, "one", "other")))
        for demand in demands_elsewhere():
            shelf = shelf_with(one=EVERY, other=RARE)
            self.assert_stopped(shelf, Broken, 0, lambda: shelf.ask(("one", demand)))
            shelf.ask(("other", ("again",)))
            self.assert_stopped(shelf, Broken, 1, lambda: shelf.ask(("one", demand)))

    def test_the_same_name_twice(self):
        shelf = shelf_with(one=RARE)
        for form in ("alike", "within"):
            shelf.ask((form, "one", "one"))
        shelf["one"] = SOME
        shelf["one"] = one_state("xyz", 3)
        self.assertEqual(shelf.changes, 5)
        self.assert_stopped(shelf, InUse, 0, lambda: shelf.remove("one"))

    def test_names_that_are_words_of_demands(self):
        for name in ("alike", "within", "guard", "in", "like"):
            shelf = shelf_with(**{name: CALM})
            shelf.ask((name, ("guard",)))
            shelf.ask(("alike", name, name))
            self.assertEqual(shelf.demands, ((name, ("guard",)), ("alike", name, name)))

    def test_the_first_demand_that_a_machine_breaks(self):
        demands = (
            ("one", ("again",)), ("one", ("guard",)), ("alike", "one", "other"), ("within", "one", "more"),
            ("other", ("bad", "b")), ("more", ("hope",)))
        shelf = shelf_with(*demands, one=CALM, other=CALM, more=EVERY)
        for name, machine, index in (
            ("one", hope(RARE), 1), ("one", EVERY, 2), ("one", NOTHING, 2), ("one", opposite(hope(RARE)), 0),
            ("one", one_state("abc", 0), 2), ("other", EVERY, 2), ("other", one_state("q", 1), 2),
            ("more", opposite(SOME), 3), ("more", NOTHING, 3), ("more", one_state("xyz", 0), 3), ("more", CALM, 5),
        ):
            self.assert_stopped(shelf, Broken, index, lambda: shelf.__setitem__(name, machine))
            self.assertEqual(holds_there({"one": CALM, "other": CALM, "more": EVERY, name: machine}, demands[index]),
                             False)
        shelf["one"] = recoloured(Machine("ab", ((2, (0, 1)), (3, (1, 1)))))
        shelf["more"] = SOME
        self.assertEqual(shelf.changes, 11)
        shelf.lift(2)
        self.assert_stopped(shelf, Broken, 2, lambda: shelf.__setitem__("one", EVERY))
        shelf.lift(2)
        shelf["one"] = EVERY
        self.assertEqual(shelf["one"], EVERY)

    def test_a_demand_that_is_none_for_the_new_letters_is_broken(self):
        for demand, machine in (
            (("bad", "b"), one_state("a", 1)), (("out", ("b", "b")), one_state("ac", 1)),
            (("like", str(CALM)), one_state("abc", 0)),
        ):
            shelf = shelf_with(("one", ("guard",)), ("one", demand), one=CALM)
            self.assert_stopped(shelf, Broken, 1, lambda: shelf.__setitem__("one", machine))
        # Demands without letters hold for machines with any letters.
        shelf = shelf_with(("one", ("guard",)), ("one", ("depth", 1)), ("one", ("bad", "b")), one=CALM)
        shelf["one"] = Machine("bxz", ((0, (1, 0, 0)), (1, (1, 1, 1))))
        self.assertEqual(shelf["one"].letters, "bxz")

    def test_edges_of_words(self):
        shelf = shelf_with(one=one_state("ab", 1), three=one_state("xyz", 1))
        for demand in (
            ("one", ("bad", "")), ("one", ("bad", "ab" * 100)), ("one", ("out", ("", "a" * 200))),
            ("one", ("out", ("b" * 200, "a" * 200))), ("three", ("bad", "xyz")), ("three", ("out", ("xy", "z"))),
        ):
            shelf.ask(demand)
        for demand in (
            ("one", ("bad", "a" * 201)), ("one", ("out", ("", "a" * 201))), ("one", ("out", ("a" * 201, "a"))),
            ("three", ("bad", "wxyz")), ("three", ("out", ("wx", "yz"))),
        ):
            self.assert_refused(shelf, InvalidDemand, demand, lambda: shelf.ask(demand))


class ErrorsTest(ShelfCase):
    def setUp(self):
        self.shelf = shelf_with(
            ("one", ("again",)), ("within", "one", "other"), ("alike", "other", "other"), one=RARE, other=guard(RARE),
            more=SOME)

    def test_no_name(self):
        shelf = self.shelf
        for value in [*odd_values(), *NO_NAMES, 0, 1, (), ("a",), "a" * 1000]:
            self.assert_refused(shelf, InvalidName, value, lambda: shelf.__setitem__(value, RARE))
            self.assert_refused(shelf, InvalidName, value, lambda: shelf.__setitem__(value, None))
            self.assert_refused(shelf, InvalidName, value, lambda: shelf.__setitem__(value, NOTHING))

    def test_no_machine(self):
        shelf = self.shelf
        for value in no_machines():
            for name in ("one", "new"):
                self.assert_refused(shelf, NotAMachine, value, lambda: shelf.__setitem__(name, value))

    def test_nothing_under_a_name(self):
        shelf = self.shelf
        for value in [*some_values(), *NO_NAMES, "two", "on", "ones", ("one",), slice(0, 1), "One"]:
            self.assert_refused(shelf, UnknownName, value, lambda: shelf[value])
            self.assert_refused(shelf, UnknownName, value, lambda: shelf.remove(value))
            self.assert_refused(shelf, UnknownName, value, lambda: shelf.remove(name=value))
            self.assertIs(value in shelf, False)
            self.assertIs(value not in shelf, True)

    def test_in_use(self):
        shelf = self.shelf
        self.assert_stopped(shelf, InUse, 0, lambda: shelf.remove("one"))
        self.assert_stopped(shelf, InUse, 1, lambda: shelf.remove("other"))
        shelf.lift(0)
        self.assert_stopped(shelf, InUse, 0, lambda: shelf.remove("one"))
        self.assert_stopped(shelf, InUse, 0, lambda: shelf.remove("other"))
        shelf.lift(0)
        self.assertIsNone(shelf.remove("one"))
        self.assert_stopped(shelf, InUse, 0, lambda: shelf.remove("other"))
        shelf.lift(0)
        shelf.remove("other")
        self.assertEqual(shelf.names, ("more",))

    def test_words_of_demands_are_no_names_in_use(self):
        shelf = shelf_with(("one", ("guard",)), ("alike", "one", "one"), one=CALM, guard=RARE, alike=RARE)
        shelf.remove("guard")
        shelf.remove("alike")
        self.assertEqual(shelf.names, ("one",))

    def test_no_demand(self):
        shelf = self.shelf
        demands = no_demands_at_all()
        wrong = [
            *some_values(), *demands,
            *(("one", demand) for demand in demands), *(("new", demand) for demand in demands),
            *((name, ("guard",)) for name in [*NO_NAMES, *odd_values(), 0, ()]),
            *(("alike", name, "one") for name in [*NO_NAMES, *odd_values(), 0, ()]),
            *(("within", "one", name) for name in [*NO_NAMES, *odd_values(), 0, ()]),
            *((form, "one", "other") for form in [
                "", "Alike", "alike ", "same", "inside", "parted", "one", "like", "in", *odd_values(), 0, ()]),
            ("alike",), ("alike", "one"), ("alike", "one", "other", "more"), ["alike", "one", "other"],
            ("one", ["guard"]), ["one", ("guard",)], ("one", "guard"), ("one", ("guard",), ()), (("one", ("guard",)),),
            ("one", ("guard",), ("hope",)), ("alike", ("one",), ("other",)), ("alike", ("one", "other"))]
        for value in wrong:
            self.assert_refused(shelf, InvalidDemand, value, lambda: shelf.ask(value))
        self.assert_refused(shelf, InvalidDemand, None, lambda: shelf.ask(demand=None))

    def test_no_such_names_in_a_demand(self):
        shelf = self.shelf
        for demand, name in (
            (("two", ("guard",)), "two"), (("guard", ("guard",)), "guard"), (("two", ("bad", "xyz")), "two"),
            (("two", ("like", TEXT_A)), "two"), (("alike", "two", "three"), "two"), (("alike", "one", "two"), "two"),
            (("within", "two", "one"), "two"), (("within", "two", "two"), "two"), (("alike", "alike", "one"), "alike"),
        ):
            self.assert_refused(shelf, UnknownName, name, lambda: shelf.ask(demand))

    def test_a_wrong_demand_comes_ahead_of_unknown_names(self):
        for demand in (("two", ("guards",)), ("two", ("bad", "wxyz")), ("alike", "two", "Two"), ("alike", "", "two")):
            self.assert_refused(self.shelf, InvalidDemand, demand, lambda: self.shelf.ask(demand))

    def test_no_index(self):
        shelf = self.shelf
        for value in [*odd_values(), -1, 3, 4, 10 ** 39, -10 ** 39, "0", "", (), (0,), "one"]:
            self.assert_refused(shelf, InvalidIndex, value, lambda: shelf.lift(value))
            self.assert_refused(shelf, InvalidIndex, value, lambda: shelf.lift(index=value))
        for value in (0, -1, 1, None):
            self.assert_given(InvalidIndex, value, lambda: Shelf().lift(value))
        shelf.lift(2)
        self.assert_refused(shelf, InvalidIndex, 2, lambda: shelf.lift(2))

    def test_broken_by_a_demand(self):
        shelf = self.shelf
        for demand in (
            ("one", ("guard",)), ("more", ("bad", "a")), ("alike", "one", "other"), ("within", "more", "one"),
            ("one", ("like", TEXT_A)), ("one", ("bad", "c")),
        ):
            self.assert_stopped(shelf, Broken, 3, lambda: shelf.ask(demand))
            self.assert_stopped(shelf, Broken, 3, lambda: shelf.ask(demand=demand))


class ValueTest(ShelfCase):
    def test_equal_to_itself_alone(self):
        one, other = shelf_with(a=RARE), shelf_with(a=RARE)
        self.assertTrue(one == one and not one != one)
        for value in [other, Shelf(), one.trial(), RARE, *some_values()]:
            self.assertIs(one == value, False)
            self.assertIs(one != value, True)
        self.assertTrue(Shelf() != Shelf())
        one.undo()
        other.undo()
        self.assertTrue(one == one and one != other)

    def test_true_also_if_empty(self):
        self.assertIs(bool(Shelf()), True)
        self.assertIs(bool(shelf_with(a=RARE)), True)

    def test_two_shelves_know_nothing_of_one_another(self):
        one, other = Shelf(), Shelf()
        one["a"] = RARE
        self.assertEqual([one.names, other.names], [("a",), ()])
        other["b"] = SOME
        one.undo()
        self.assertEqual([one.names, other.names], [(), ("b",)])

    def test_properties_are_not_assigned(self):
        shelf = shelf_with(a=RARE)
        for name in ("names", "demands", "changes"):
            with self.assertRaises(AttributeError):
                setattr(shelf, name, getattr(shelf, name))

    def test_methods_stand_in_the_class_itself(self):
        self.assertEqual(Shelf.__module__, shelves.__name__)
        for name in (
            "__setitem__", "__getitem__", "__contains__", "__len__", "remove", "ask", "lift", "undo", "trial", "tried",
            "names", "demands", "changes",
        ):
            self.assertIn(name, vars(Shelf))

    def test_by_name_and_the_same_each_time(self):
        rows = []
        for _ in range(2):
            shelf = shelf_with(a=RARE, b=SOME)
            shelf.ask(demand=("a", ("again",)))
            shelf.lift(index=0)
            shelf.remove(name="a")
            self.assertEqual(shelf.tried(action=lambda held: held.names), ("b",))
            rows.append((told(shelf), undone(shelf)))
        self.assertEqual(rows[0], rows[1])


class TrialTest(ShelfCase):
    def put_some(self, shelf):
        shelf["one"] = guard(RARE)
        shelf["new"] = SOME
        shelf.ask(("new", ("hope",)))
        shelf.lift(0)
        shelf.remove("more")

    def start(self):
        return shelf_with(("one", ("again",)), one=RARE, more=SOME)

    def test_rows_that_end_well_stay(self):
        shelf = self.start()
        with shelf.trial() as held:
            self.assertIs(held, shelf)
            self.put_some(held)
        self.assertEqual(shelf.changes, 8)
        self.assertEqual([shelf.names, shelf.demands], [("new", "one"), (("new", ("hope",)),)])

    def test_an_exception_takes_all_back_and_is_passed_on(self):
        for error in (Stop(), KeyError("a"), StopIteration(), KeyboardInterrupt(), GeneratorExit(), Broken(0)):
            shelf = self.start()
            before = told(shelf), undone(shelf)
            with self.assertRaises(type(error)) as raised:
                with shelf.trial() as held:
                    self.put_some(held)
                    raise error
            self.assertIs(raised.exception, error)
            self.assertEqual((told(shelf), undone(shelf)), before)

    def test_errors_of_the_shelf_itself(self):
        shelf = self.start()
        before = told(shelf), undone(shelf)
        for kind, call in (
            (InvalidName, lambda held: held.__setitem__("", RARE)), (InvalidIndex, lambda held: held.lift(9)),
            (NotAMachine, lambda held: held.__setitem__("a", None)), (UnknownName, lambda held: held["none"]),
            (UnknownName, lambda held: held.remove("none")), (InUse, lambda held: held.remove("new")),
            (InvalidDemand, lambda held: held.ask(None)), (Broken, lambda held: held.ask(("one", ("hope",)))),
            (Broken, lambda held: held.__setitem__("new", NOTHING)),
            (NothingToUndo, lambda held: [held.undo() for _ in range(20)]),
        ):
            with self.assertRaises(kind), shelf.trial():
                self.put_some(shelf)
                call(shelf)
            self.assertEqual((told(shelf), undone(shelf)), before)

            def action(held):
                self.put_some(held)
                call(held)

            self.raised_by(kind, lambda: shelf.tried(action))
            self.assertEqual((told(shelf), undone(shelf)), before)

    def test_tried(self):
        shelf = self.start()
        for value in (None, 0, "a", Raises(), [1], False):
            self.assertIs(shelf.tried(lambda held: value), value)
        self.assertIs(shelf.tried(lambda held: held), shelf)
        self.assertEqual(shelf.changes, 3)
        shelf.tried(self.put_some)
        self.assertEqual(shelf.changes, 8)
        error = Stop()

        def action(held):
            held.remove("new") if "new" not in [one[0] for one in held.demands] else held.undo()
            raise error

        self.assertIs(self.raised_by(Stop, lambda: shelf.tried(action)), error)
        self.assertEqual(shelf.changes, 8)

    def test_undo_behind_the_beginning(self):
        shelf = self.start()
        before = told(shelf), undone(shelf)
        with self.assertRaises(Stop), shelf.trial():
            shelf.undo()
            shelf.undo()
            shelf["one"] = NOTHING
            raise Stop
        self.assertEqual((told(shelf), undone(shelf)), before)
        with shelf.trial():
            shelf.undo()
            shelf.undo()
            shelf["one"] = NOTHING
        self.assertEqual([shelf["one"], shelf.names, shelf.changes], [NOTHING, ("one",), 2])

    def test_trials_within_trials_also_by_one_object(self):
        for same, inner, outer in product((True, False), repeat=3):
            shelf = self.start()
            before = told(shelf), undone(shelf)
            trial = shelf.trial()
            try:
                with trial:
                    shelf["a"] = SOME
                    try:
                        with trial if same else shelf.trial():
                            shelf.undo()
                            shelf.undo()
                            shelf["b"] = CALM
                            if inner:
                                raise Stop
                    except Stop:
                        self.assertEqual([shelf.names, shelf.changes], [("a", "more", "one"), 4])
                    shelf["c"] = CALM
                    if outer:
                        raise Stop
            except Stop:
                self.assertEqual((told(shelf), undone(shelf)), before)
            else:
                self.assertEqual(
                    [shelf.names, shelf.changes],
                    [("a", "c", "more", "one"), 5] if inner else [("b", "c", "more", "one"), 4])

    def test_begins_with_the_rows(self):
        shelf = Shelf()
        trial = shelf.trial()
        shelf["a"] = RARE
        for _ in range(2):
            with self.assertRaises(Stop), trial as held:
                held["a"] = SOME
                raise Stop
            self.assertEqual([shelf["a"], shelf.changes], [RARE, 1])


class WishesTest(ShelfCase):
    """What holds of a wish, its guard, its hope and its opposite on a shelf."""

    def test_of_many_wishes(self):
        numbers = numbers_from(164)
        for machine in mixed_machines(90, 165):
            shelf = shelf_with(wish=machine, guard=guard(machine), hope=hope(machine), other=opposite(machine))
            for demand in (
                ("within", "wish", "guard"), ("within", "wish", "hope"), ("guard", ("guard",)), ("hope", ("hope",)),
                ("guard", ("depth", 1)), ("guard", ("watchable",)), ("wish", ("like", str(recoloured(machine)))),
                ("alike", "wish", "wish"), ("other", ("like", str(opposite(machine)))),
            ):
                shelf.ask(demand)
            index = len(shelf.demands)
            for demand in (("alike", "wish", "other"), ("wish", ("like", str(opposite(machine))))):
                self.assert_index(Broken, index, lambda: shelf.ask(demand))
            turned = {"guard": "promise", "duty": "duty", "again": "stays", "watchable": "watchable"}
            for kind, beside in turned.items():
                self.assertIs(self.takes(shelf, ("wish", (kind,))), self.takes(shelf, ("other", (beside,))))
            self.assertIs(self.takes(shelf, ("alike", "wish", "guard")), self.takes(shelf, ("wish", ("guard",))))
            self.assertIs(self.takes(shelf, ("within", "guard", "wish")), self.takes(shelf, ("wish", ("guard",))))
            self.assertIs(self.takes(shelf, ("alike", "wish", "hope")), self.takes(shelf, ("wish", ("hope",))))
            self.assertIs(self.takes(shelf, ("within", "hope", "wish")), self.takes(shelf, ("wish", ("hope",))))
            word = word_of(machine.letters, numbers, 3)
            self.assertIs(
                self.takes(shelf, ("wish", ("bad", word))), self.takes(shelf, ("guard", ("bad", word))))
            self.assertIs(
                self.takes(shelf, ("wish", ("bad", word))), self.takes(shelf, ("other", ("good", word))))
            self.assertIs(self.takes(shelf, ("hope", ("bad", word))), False)
            self.assertEqual(len(shelf.demands), index)

    def takes(self, shelf, demand):
        """Whether a demand can be made; the shelf is then as it was."""
        try:
            shelf.ask(demand)
        except Broken:
            return False
        shelf.undo()
        return True

    def test_machines_that_are_alike_take_each_other_s_place(self):
        numbers = numbers_from(166)
        for machine in mixed_machines(45, 167):
            demands = [demand for demand in some_demands(machine, numbers) if holds_in(machine, demand)]
            shelf = shelf_with(*(("wish", demand) for demand in demands), wish=machine, same=machine)
            shelf.ask(("alike", "wish", "same"))
            for other in disguised(machine, numbers):
                shelf["wish"] = other
                self.assertIs(shelf["wish"], other)
            self.assert_stopped(shelf, Broken, self.first_broken(shelf, opposite(machine)),
                                lambda: shelf.__setitem__("wish", opposite(machine)))

    def first_broken(self, shelf, machine):
        machines = {"wish": machine, "same": shelf["same"]}
        return [k for k, demand in enumerate(shelf.demands) if not holds_there(machines, demand)][0]

    def test_each_kind_is_refused_and_taken(self):
        for kind in KINDS:
            shelf = shelf_with(one=EVERY)
            shelf.ask(("one", (kind,)))
            self.assertEqual(shelf.demands, (("one", (kind,)),))
        for form, value in (("alike", SaysEqual()), ("within", Raises())):
            demand = (form, "one", value)
            self.assert_given(InvalidDemand, demand, lambda: shelf.ask(demand))
