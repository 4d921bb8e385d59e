from itertools import combinations, product

from guardhopes import mends as mends_file
from guardhopes.errors import InvalidChanges, InvalidDemand, InvalidDemands, NotAMachine
from guardhopes.machines import Machine
from guardhopes.mends import holds, mends
from guardhopes.parts import guard, hope, opposite, recoloured
from tests.cases import Case
from tests.demands import KINDS, TEXT_A, TEXT_AB, demands_elsewhere, holds_in, no_demands_at_all, some_demands
from tests.loops import (
    depth_in, disguised, ladder, live_in, mixed_machines, no_machines, one_state, reached_in, word_of)
from tests.values import Raises, SaysEqual, numbers_from, odd_values, some_values

RARE = Machine.read("machine ab\nstate 1 0 1\nstate 2 0 2\nstate 1 2 2")
SOME = Machine("ab", ((1, (1, 0)), (0, (1, 1))))


def changes_of(machine, numbers, many):
    """Changes of a machine by chance, most of them of places that are reached, some that give no machine."""
    found = []
    for _ in range(many):
        state = sorted(reached_in(machine))[next(numbers) % len(reached_in(machine))]
        part = ("colour", *machine.letters)[next(numbers) % (len(machine.letters) + 1)]
        value = next(numbers) % (8 if part == "colour" else len(machine))
        found.append((state, part, value))
    return tuple(found)


def behind_all(machine, changes):
    """The machine with all changes, or None; told anew from the document."""
    if len({(state, part) for state, part, _ in changes}) < len(changes):
        return None
    states = [[colour, list(following)] for colour, following in machine.states]
    for state, part, value in changes:
        if type(value) is not int or not 0 <= value < (7 if part == "colour" else len(machine)):
            return None
        if part == "colour":
            states[state][0] = value
        else:
            states[state][1][machine.letters.index(part)] = value
    return Machine(machine.letters, tuple((colour, tuple(following)) for colour, following in states))


def mends_in(machine, demands, changes):
    """All least sets that mend: each set of places whose parts are all looked at."""
    mending = []
    for many in range(len(changes) + 1):
        for places in combinations(range(len(changes)), many):
            behind = behind_all(machine, [changes[k] for k in places])
            if behind is not None and all(holds_in(behind, demand) for demand in demands):
                mending.append(places)
    return tuple(
        places for places in mending if not any(set(other) < set(places) for other in mending))


class HoldsTest(Case):
    def assert_holds(self, machine, demand, truth):
        self.assertIs(holds(machine, demand), truth, (str(machine), demand))

    def test_as_all_loops_tell(self):
        numbers = numbers_from(121)
        met = {}
        for machine in mixed_machines(240, 122):
            for demand in some_demands(machine, numbers):
                truth = holds_in(machine, demand)
                self.assert_holds(machine, demand, truth)
                met[demand[0], truth] = met.get((demand[0], truth), 0) + 1
        for word, truth in product((*KINDS, "depth", "in", "out", "bad", "good", "like"), (True, False)):
            self.assertGreater(met[word, truth], 10, (word, truth))

    def test_all_kinds_of_machines_of_two_states(self):
        rows = list(product(range(3), product(range(2), repeat=2)))
        for states in product(rows, repeat=2):
            machine = Machine("by", states)
            for kind in KINDS:
                self.assert_holds(machine, (kind,), holds_in(machine, (kind,)))

    def test_each_depth(self):
        for colours in ((0, 1, 2, 3, 4, 5), (1, 2, 3, 4, 5, 6), (2, 4, 6), (1, 3, 5), (1, 2), (3,)):
            machine = ladder("abc", colours)
            for number in range(7):
                self.assert_holds(machine, ("depth", number), depth_in(machine) <= number)
        self.assert_holds(ladder("abc", (1, 2, 3, 4, 5, 6)), ("depth", 5), False)
        self.assert_holds(ladder("abc", (1, 2, 3, 4, 5, 6)), ("depth", 6), True)

    def test_greatest_machines(self):
        numbers = numbers_from(123)
        for _ in range(40):
            machine = Machine("abc", tuple(
                (next(numbers) % 7, tuple(next(numbers) % 6 for _ in range(3))) for _ in range(6)))
            for demand in some_demands(machine, numbers):
                self.assert_holds(machine, demand, holds_in(machine, demand))

    def test_edges_of_words(self):
        for word, truth in (("", False), ("b" * 200, True), ("a" * 200, False), ("ab" * 99 + "bb", True)):
            self.assert_holds(RARE, ("bad", word), truth)
            self.assert_holds(RARE, ("good", word), False)
        self.assert_holds(SOME, ("good", "b" * 199 + "a"), True)
        self.assert_holds(SOME, ("good", "b" * 200), False)
        self.assert_holds(one_state("q", 1), ("bad", ""), True)
        self.assert_holds(one_state("q", 2), ("good", ""), True)
        for truth in (True, False):
            form = "in" if truth else "out"
            self.assert_holds(RARE, (form, ("ab" * 100, "ab" * 100)), truth)
            self.assert_holds(RARE, (form, ("", "a" * 200)), not truth)
            self.assert_holds(RARE, (form, ("b" * 200, "a" * 200)), not truth)
        long_lasso = ("a" * 200, "b" * 199 + "a")
        self.assert_holds(SOME, ("in", long_lasso), True)

    def test_like_machines_of_other_sizes(self):
        more = "machine ab\nstate 3 1 0\nstate 2 2 1\nstate 0 1 2"
        self.assert_holds(SOME, ("like", more), True)
        self.assert_holds(SOME, ("like", str(opposite(SOME))), False)
        self.assert_holds(one_state("ab", 0), ("like", "machine ab\nstate 0 0 0"), True)
        self.assert_holds(one_state("ab", 0), ("like", "machine ab\nstate 6 0 0\nstate 1 1 1"), True)
        self.assert_holds(one_state("ab", 0), ("like", "machine ab\nstate 1 0 0"), False)


class WishesTest(Case):
    """What holds is the same for each machine of a wish, and follows for its guard, its hope and its opposite."""

    def test_the_same_for_machines_that_are_alike(self):
        numbers = numbers_from(124)
        for machine in mixed_machines(90, 125):
            demands = some_demands(machine, numbers)
            told = [holds(machine, demand) for demand in demands]
            for other in [*disguised(machine, numbers), recoloured(machine), opposite(opposite(machine))]:
                self.assertEqual([holds(other, demand) for demand in demands], told)
                self.assertIs(holds(other, ("like", str(machine))), True)

    def test_of_the_guard_and_the_hope(self):
        for machine in mixed_machines(180, 126):
            safe, good = guard(machine), hope(machine)
            for demand in (("guard",), ("duty",), ("again",), ("stays",), ("depth", 1), ("watchable",)):
                self.assertIs(holds(safe, demand), True)
            self.assertIs(holds(good, ("hope",)), True)
            self.assertIs(holds(machine, ("guard",)), holds(machine, ("like", str(safe))))
            self.assertIs(holds(machine, ("hope",)), holds(machine, ("like", str(good))))
            self.assertIs(holds(good, ("guard",)), holds(good, ("depth", 0)))
            self.assertIs(holds(safe, ("hope",)), holds(machine, ("hope",)))
            for number in range(7):
                if holds(machine, ("depth", number)):
                    self.assertIs(holds(good, ("depth", number)), True)

    def test_beginnings_of_the_guard_and_the_hope(self):
        numbers = numbers_from(127)
        for machine in mixed_machines(120, 128):
            safe, good = guard(machine), hope(machine)
            for length in (0, 1, 2, 3, 5, 8):
                word = word_of(machine.letters, numbers, length)
                bad = holds(machine, ("bad", word))
                self.assertIs(holds(safe, ("bad", word)), bad)
                self.assertIs(holds(good, ("bad", word)), False)
                self.assertLessEqual(bad, holds(good, ("good", word)))
                self.assertLessEqual(holds(machine, ("good", word)), holds(safe, ("good", word)))

    def test_of_the_opposite(self):
        numbers = numbers_from(129)
        turned = {"guard": "promise", "promise": "guard", "duty": "duty", "again": "stays", "stays": "again",
                  "watchable": "watchable", "in": "out", "out": "in", "bad": "good", "good": "bad"}
        for machine in mixed_machines(120, 130):
            other = opposite(machine)
            for demand in some_demands(machine, numbers):
                if demand[0] in turned:
                    self.assertIs(holds(other, (turned[demand[0]], *demand[1:])), holds(machine, demand))
            self.assertIs(holds(other, ("like", str(machine))), False)
            self.assertIs(holds(other, ("hope",)), not any(holds(machine, ("good", word)) for word in (
                "", *(first_word(machine, k) for k in reached_in(machine)))))
            for number in range(6):
                self.assertLessEqual(holds(machine, ("depth", number)), holds(other, ("depth", number + 1)))


def first_word(machine, state):
    """A word that leads to a state that is reached."""
    words = {0: ""}
    for _ in machine.states:
        for k, word in list(words.items()):
            for letter, to in zip(machine.letters, machine.states[k][1]):
                words.setdefault(to, word + letter)
    return words[state]


class MendsTest(Case):
    def assert_mends(self, machine, demands, changes, told):
        found = mends(machine, demands, changes)
        self.assertEqual(found, told, (str(machine), demands, changes))
        self.assertIs(type(found), tuple)
        for places in found:
            self.assertIs(type(places), tuple)
            self.assertTrue(all(type(place) is int for place in places))

    def test_as_a_look_at_all_sets_tells(self):
        numbers = numbers_from(131)
        sizes = {}
        for machine in mixed_machines(180, 132):
            every = some_demands(machine, numbers)
            for many in (1, 2, 3):
                demands = tuple(every[next(numbers) % len(every)] for _ in range(many))
                changes = changes_of(machine, numbers, 3 + next(numbers) % 3)
                told = mends_in(machine, demands, changes)
                self.assert_mends(machine, demands, changes, told)
                for places in told:
                    sizes[len(places)] = sizes.get(len(places), 0) + 1
        self.assertGreater(min(sizes[0], sizes[1]), 50, sizes)
        self.assertGreater(len(sizes), 2)

    def test_towards_another_machine(self):
        # All differences together mend, so that greater sets are least ones.
        numbers = numbers_from(133)
        sizes = set()
        for machine in mixed_machines(90, 134):
            changes = changes_of(machine, numbers, 5)
            goal = machine
            for state, part, value in changes:
                if behind_all(machine, [(state, part, value)]) is not None:
                    goal = goal.changed((state, part, value))
            demands = (("like", str(goal)),)
            told = mends_in(machine, demands, changes)
            self.assert_mends(machine, demands, changes, told)
            sizes |= {len(places) for places in told}
        self.assertLessEqual({0, 1, 2, 3}, sizes)

    def test_all_changes_are_needed(self):
        machine = Machine("ab", ((1, (0, 1)), (1, (0, 2)), (1, (0, 3)), (1, (0, 4)), (1, (0, 5)), (1, (0, 5))))
        changes = tuple((k, "colour", 0) for k in (4, 0, 3, 1, 2))
        demands = (*(("in", ("b" * k, "a" + "b" * k)) for k in range(5)),)
        self.assert_mends(machine, demands, changes, ((0, 1, 2, 3, 4),))
        self.assert_mends(machine, demands[:1], changes, ((1,),))
        self.assert_mends(machine, demands[:2], changes, ((1, 3),))
        self.assert_mends(machine, (*demands[:2], demands[4]), changes, ((0, 1, 2, 3, 4),))
        self.assert_mends(machine, (("in", ("", "b")),), changes, ())
        self.assert_mends(machine, demands, changes[:4], ())

    def test_order_by_number_and_then_ascending(self):
        machine = Machine("a", ((1, (1,)), (1, (0,))))
        either = ((0, "colour", 2), (1, "colour", 0), (1, "colour", 4), (0, "a", 0), (0, "colour", 0))
        self.assert_mends(machine, (("in", ("", "a")),), either, ((0,), (2,), (1, 4), (3, 4)))
        self.assert_mends(machine, (("in", ("", "a")),), either[::-1], ((2,), (4,), (0, 1), (0, 3)))

    def test_the_empty_set(self):
        changes = ((0, "colour", 0), (1, "colour", 0), (0, "colour", 0))
        for demands in ((), (("again",),), (("in", ("", "ab")), ("bad", "bb"), ("depth", 2))):
            self.assert_mends(RARE, demands, changes, ((),))
            self.assert_mends(RARE, demands, (), ((),))
        self.assert_mends(RARE, (("guard",),), (), ())
        self.assert_mends(RARE, (("in", ("", "a")), ("out", ("", "a"))), changes, ())

    def test_changes_of_the_same_place_are_no_set(self):
        machine = Machine("a", ((1, (1,)), (3, (0,))))
        self.assert_mends(
            machine, (("in", ("", "a")),), ((1, "colour", 0), (0, "colour", 4), (1, "colour", 1), (0, "colour", 2)),
            ((1,), (0, 3), (2, 3)))
        both = ((0, "colour", 2), (0, "colour", 2))
        self.assert_mends(one_state("a", 1), (("in", ("", "a")),), both, ((0,), (1,)))
        self.assert_mends(one_state("a", 1), (("out", ("", "a")),), both, ((),))
        # Another part of the same state, and the same part of another state, make a set.
        two = Machine("ab", ((1, (0, 1)), (1, (1, 1))))
        self.assert_mends(
            two, (("in", ("", "a")), ("in", ("b", "a"))), ((0, "colour", 0), (1, "colour", 0), (0, "b", 0)),
            ((0, 1), (0, 2)))

    def test_changes_that_give_no_machine(self):
        values = [-1, 7, 10 ** 39, True, False, None, "0", "a", (), (0,), [], [0], {}, b"", *odd_values()]
        for value in values:
            self.assert_mends(
                one_state("ab", 1), (("guard",), ("hope",)), ((0, "colour", value), (0, "colour", 2)), ((1,),))
            self.assert_mends(one_state("ab", 2), (("hope",),), ((0, "colour", value),), ((),))
            self.assert_mends(one_state("ab", 1), (("hope",),), ((0, "colour", value),), ())
        for value in [2, 6, *values]:
            self.assert_mends(
                SOME, (("good", "b"),), ((0, "a", value), (0, "b", value), (0, "b", 1)), ((2,),))
        # A set with such a change does not mend, though the others alone would, if they are all needed.
        self.assert_mends(SOME, (("bad", "a"),), ((1, "colour", 7), (1, "colour", 1), (0, "b", 2)), ((1,),))

    def test_what_a_greater_set_spoils_and_mends_again(self):
        # The first change mends alone, not beside the third one, but again beside both others, which mend, too.
        machine = Machine("ab", ((1, (0, 1)), (1, (1, 1))))
        changes = ((1, "colour", 0), (0, "colour", 0), (1, "a", 0))
        self.assert_mends(machine, (("in", ("b", "a")),), changes, ((0,), (1, 2)))
        self.assert_mends(machine, (("in", ("b", "a")), ("out", ("", "a"))), changes, ((0,),))
        self.assert_mends(machine, (("in", ("", "a")),), changes, ((1,),))

    def test_three_letters_and_six_states(self):
        numbers = numbers_from(135)
        for k in range(12):
            machine = ladder("abc", tuple(next(numbers) % 7 for _ in range(6)))
            demands = tuple(some_demands(machine, numbers)[at] for at in (next(numbers) % 8, 8, 10 + k % 4))
            changes = changes_of(machine, numbers, 5)
            self.assert_mends(machine, demands, changes, mends_in(machine, demands, changes))

    def test_by_name_the_same_each_time_and_nothing_changes(self):
        demands, changes = (("guard",),), ((0, "colour", 2), (0, "colour", 0), (1, "colour", 1), (2, "colour", 0))
        text = str(RARE)
        for _ in range(2):
            self.assertEqual(mends(changes=changes, machine=RARE, demands=demands), ((0,), (1,), (2,)))
        self.assertEqual(mends(Machine.read(text), demands, changes), ((0,), (1,), (2,)))
        self.assertEqual(str(RARE), text)
        self.assertIs(holds(demand=("again",), machine=RARE), True)

    def test_defined_in_its_file(self):
        for name in ("holds", "mends"):
            self.assertEqual(getattr(mends_file, name).__module__, "guardhopes.mends")


class DemandErrorsTest(Case):
    def test_no_machine_comes_first(self):
        for value in no_machines():
            self.assert_given(NotAMachine, value, lambda: holds(value, ("guard",)))
            self.assert_given(NotAMachine, value, lambda: holds(value, value))
            self.assert_given(NotAMachine, value, lambda: holds(demand=None, machine=value))
            self.assert_given(NotAMachine, value, lambda: mends(value, (("guard",),), ()))
            self.assert_given(NotAMachine, value, lambda: mends(value, None, None))

    def test_no_demand(self):
        for value in [*some_values(), *no_demands_at_all(), *demands_elsewhere()]:
            self.assert_given(InvalidDemand, value, lambda: holds(RARE, value))
            self.assert_given(InvalidDemand, value, lambda: holds(demand=value, machine=RARE))

    def test_letters_of_the_machine_count(self):
        for letters in ("a", "b", "ab", "bc", "abc", "xyz"):
            machine = one_state(letters, 0)
            for text in (TEXT_A, TEXT_AB, "machine bc\nstate 0 0 0", "machine abc\nstate 1 0 0 0"):
                if text.split()[1] == letters:
                    self.assertIn(holds(machine, ("like", text)), (True, False))
                else:
                    demand = ("like", text)
                    self.assert_given(InvalidDemand, demand, lambda: holds(machine, demand))
            for word in ("a", "b", "c", "ab", "ba", "cab", "z"):
                for demand in (("bad", word), ("good", word), ("in", (word, word)), ("out", ("", word)),
                               ("in", (word, letters)), ("out", (letters, word))):
                    if set(word) <= set(letters):
                        self.assertIn(holds(machine, demand), (True, False))
                    else:
                        self.assert_given(InvalidDemand, demand, lambda: holds(machine, demand))

    def test_200_and_201_letters(self):
        for form in ("bad", "good"):
            self.assertIn(holds(RARE, (form, "a" * 200)), (True, False))
            demand = (form, "a" * 201)
            self.assert_given(InvalidDemand, demand, lambda: holds(RARE, demand))
        for form in ("in", "out"):
            self.assertIn(holds(RARE, (form, ("a" * 200, "b" * 200))), (True, False))
            for lasso in (("a" * 201, "b"), ("", "b" * 201), ("a" * 201, "b" * 201)):
                demand = (form, lasso)
                self.assert_given(InvalidDemand, demand, lambda: holds(RARE, demand))


class MendsErrorsTest(Case):
    def assert_demands(self, index, demands, changes=()):
        self.assert_index(InvalidDemands, index, lambda: mends(RARE, demands, changes))
        self.assert_index(InvalidDemands, index, lambda: mends(changes=changes, demands=demands, machine=RARE))

    def assert_changes(self, index, changes, machine=RARE):
        self.assert_index(InvalidChanges, index, lambda: mends(machine, (("guard",),), changes))

    def test_no_tuple(self):
        for value in [*odd_values(), "", "guard", 0, ["guard"], [("guard",)], {"guard": 1}]:
            self.assert_demands(None, value)
            self.assert_demands(None, value, Raises())
            self.assert_changes(None, value)

    def test_one_wrong_demand(self):
        for value in [*no_demands_at_all(), *demands_elsewhere()]:
            for ahead in range(5):
                demands = (("again",),) * ahead + (value,)
                self.assert_demands(ahead, demands)
            self.assert_demands(1, (("again",), value, value, ("guard",), ("hope",)))
        self.assert_demands(0, ("guard",))
        self.assert_demands(0, (("guard", 1), "depth"))

    def test_five_demands_and_a_sixth_one(self):
        five = (("again",), ("watchable",), ("depth", 2), ("in", ("", "ab")), ("bad", "bb"))
        self.assertEqual(mends(RARE, five, ()), ((),))
        for more in (("again",), None, "guard", ("guards",), Raises(), SaysEqual()):
            self.assert_demands(5, (*five, more))
            self.assert_demands(5, (*five, more, None))
            self.assert_demands(4, (*five[:4], ("guards",), more))
        self.assert_demands(5, (("guard",),) * 6)
        self.assert_demands(5, (("guard",),) * 100)
        # The same demand may come more than once.
        self.assertEqual(mends(RARE, (("again",),) * 5, ()), ((),))

    def test_demands_ahead_of_changes(self):
        for changes in (None, (None,), ((0, "colour", 0),) * 6, Raises()):
            self.assert_demands(0, (None,), changes)
            self.assert_demands(None, None, changes)
            self.assert_demands(5, (("guard",),) * 6, changes)

    def test_one_wrong_change(self):
        right = (0, "colour", 0)
        numbers = [-1, 3, 10 ** 39, True, False, None, "0", (0,), [0], b"0", SaysEqual(), Raises()]
        parts = ["", "c", "ab", "ba", "Colour", "colour ", "color", "A", "0", None, 0, True, b"a", ("a",), ["a"],
                 SaysEqual(), Raises()]
        wrong = [
            *odd_values(), "", "a", "colour", 0, (), (0,), ("a",), (0, (0,)), (None, [True], {}),
            *((number, "a", 0) for number in numbers), *((0, part, 0) for part in parts),
            (0, "a"), (0, "a", 0, 0), [0, "a", 0], ("a", 0, 0), (0, 0, "a"), ((0, "a", 0),), ("colour", 0, 0)]
        for value in wrong:
            for ahead in range(5):
                self.assert_changes(ahead, (right,) * ahead + (value,))
            self.assert_changes(1, (right, value, value, right, right))

    def test_any_value_is_right(self):
        for value in some_values():
            for part in ("colour", "a", "b"):
                self.assertEqual(mends(one_state("ab", 0), (("hope",),), ((0, part, value),)), ((),))

    def test_five_changes_and_a_sixth_one(self):
        five = tuple((k % 3, "ab"[k % 2], 0) for k in range(5))
        self.assertIsInstance(mends(RARE, (("guard",),), five), tuple)
        for more in ((0, "colour", 0), None, (3, "a", 0), Raises(), SaysEqual()):
            self.assert_changes(5, (*five, more))
            self.assert_changes(5, (*five, more, None))
            self.assert_changes(4, (*five[:4], (0, "c", 0), more))
        self.assert_changes(5, ((0, "colour", 0),) * 100)

    def test_states_and_letters_of_the_machine_count(self):
        for count in range(1, 7):
            machine = Machine("xy", tuple((0, (0, 0)) for _ in range(count)))
            self.assertEqual(mends(machine, (), ((count - 1, "y", count),)), ((),))
            self.assert_changes(0, ((count, "y", 0),), machine)
            self.assert_changes(0, ((0, "a", 0),), machine)
        for live_state in live_in(RARE):
            self.assertEqual(mends(RARE, (), ((live_state, "colour", None),)), ((),))
