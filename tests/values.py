"""Values that the tests pass where something else is required, and a way to recognize them again."""

import enum


class Agrees:
    """Says that it is equal to everything, and cannot be looked up in a dict."""

    __hash__ = None

    def __eq__(self, other):
        return True

    def __len__(self):
        return 3


class Refuses:
    """Raises an error as soon as it is compared, measured, tested or shown."""

    __hash__ = None

    def refuse(self, *others):
        raise AssertionError("touched")

    __eq__ = __ne__ = __lt__ = __le__ = __gt__ = __ge__ = refuse
    __len__ = __bool__ = __iter__ = __getitem__ = __str__ = __repr__ = refuse


class Word(str, enum.Enum):
    """Strings that show themselves in another way."""

    NEED = "need"
    MODULE = "m"
    OTHER = "n"


class Number(int, enum.Enum):
    """Integers that show themselves in another way."""

    FEW = -3


NO_NUMBERS_NO_STRINGS = [
    None,
    True,
    False,
    b"",
    b"a",
    b"set a 1",
    bytearray(b"a"),
    [],
    ["a"],
    ["set", "a", 1],
    [("set", "a", 1)],
    {},
    {"a": 1},
    {"set": {"a": [1]}},
    set(),
    {"a"},
    frozenset(["a"]),
    range(3),
    object(),
    int,
    str,
    len,
    Agrees(),
    Refuses(),
]

NO_STEPS = NO_NUMBERS_NO_STRINGS + [
    0,
    1,
    -1,
    10 ** 30,
    "",
    "a",
    "fail",
    "set a 1",
    (),
    ("",),
    (None,),
    (1,),
    (True,),
    (("fail",),),
    (["fail"],),
    ({"fail": 1},),
    (b"fail",),
    (Agrees(),),
    (Refuses(),),
    (Agrees(), "a", 1),
    ("Fail",),
    ("fails",),
    ("fail ",),
    ("jump", "a"),
    ("set a", 1),
    ("set", ("a", 1)),
]

NO_NAMES = NO_NUMBERS_NO_STRINGS + [
    0,
    1,
    10 ** 30,
    "",
    "A",
    "aB",
    "a1",
    "a ",
    " a",
    "a b",
    "a\n",
    "a:b",
    "abcdefghi",
    (),
    ("a",),
    ("a", "b"),
    (["a"],),
    (Refuses(),),
]


def is_same(found, given):
    """Whether a value is the given one, or equal to it and of the same class; True is not the same as 1."""
    return found is given or (type(found) is type(given) and found == given)


def are_same(found, given):
    """Whether two sequences have the same values, one by one."""
    return len(found) == len(given) and all([is_same(one, other) for one, other in zip(found, given)])


def tried(function, *arguments, **named):
    """What a call returns, or the name and the attributes of the error of the package that it raises."""
    try:
        return "returned", function(*arguments, **named)
    except (ValueError, LookupError, RuntimeError, ArithmeticError) as error:
        if type(error).__module__ != "cycleready.errors":
            raise
        return type(error).__name__, *vars(error).values()
