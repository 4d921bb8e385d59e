"""Values of many kinds for the tests, and machines to try things with."""

from itertools import product


class SaysEqual:
    """Tells that it is equal to everything."""

    def __eq__(self, other):
        return True

    def __ne__(self, other):
        return False

    def __hash__(self):
        return 0


class Raises:
    """Can be neither compared, measured, shown nor tested."""

    def _refuse(self, *rest):
        raise RuntimeError("not to be touched")

    __eq__ = __ne__ = __lt__ = __le__ = __gt__ = __ge__ = _refuse
    __len__ = __bool__ = __iter__ = __getitem__ = __contains__ = _refuse
    __str__ = __repr__ = __hash__ = __int__ = __index__ = _refuse


def some_function():
    return 0


def odd_values():
    """Values of many kinds, none of them a string, an integer, a tuple or an object of the package."""
    return [
        None, True, False, b"", b"a", b"ab", [], ["a"], ["a", "b"], [0], {}, {"a": 0}, {0: "a"},
        set(), {"a"}, frozenset({"ab"}), range(0), range(2), iter("ab"), bytearray(b"a"),
        object(), SaysEqual(), Raises(), some_function, len, str, int, SaysEqual, ValueError("a"),
        NotImplemented, Ellipsis, [[["a"]]], slice(0, 1), 1j,
    ]


def some_values():
    """Values of many kinds, strings, integers and tuples among them."""
    plain = ["", "a", "ab", "abc", "machine a\nstate 0 0", " ", "\n", 0, 1, 2, 6, 7, -1, 10 ** 39, -10 ** 39]
    tuples = [(), (0,), ("a",), ("", ""), ("", "a"), (0, (0,)), ((0, (0,)),), (0, "a", 0), (None, [True], {})]
    return plain + tuples + odd_values()


def numbers_from(seed):
    """Endless whole numbers that look mixed and are the same each time."""
    at = seed
    while True:
        at = (at * 6364136223846793005 + 1442695040888963407) % 2 ** 64
        yield at >> 33


def parts_of_machines(many, seed=1):
    """So many pairs of letters and states, of one to six states and one to three letters."""
    numbers = numbers_from(seed)
    choices = list(product(("a", "z", "ab", "by", "abc", "mxz"), range(1, 7)))
    for k in range(many):
        letters, count = choices[k % len(choices)]
        states = tuple(
            (next(numbers) % 7, tuple(next(numbers) % count for _ in letters)) for _ in range(count))
        yield letters, states


def text_of(letters, states):
    """The text of a machine, written anew from the document."""
    text = "machine " + letters
    for colour, following in states:
        text += "\nstate " + str(colour)
        for number in following:
            text += " " + str(number)
    return text
