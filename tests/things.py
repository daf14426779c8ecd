"""Things of any kind, and trees, that several tests hand in."""


class Equal:
    """Equal to everything, so that comparing alone is fooled."""

    def __eq__(self, other):
        return True

    __hash__ = object.__hash__


class Grim:
    """Refuses to be compared, measured, hashed or taken as a truth."""

    def refuse(self, *others):
        raise RuntimeError("not to be asked")

    __eq__ = __lt__ = __le__ = __gt__ = __ge__ = __hash__ = __len__ = __bool__ = __iter__ = refuse


def nested(kernel, deep, wrap):
    """The kernel wrapped so many times."""
    for turn in range(deep):
        kernel = wrap(kernel)
    return kernel


def leaning(deep, left):
    """A tree that leans so deep to one side, its leaves a and b."""
    return nested("a", deep, (lambda tree: (tree, "b")) if left else (lambda tree: ("b", tree)))


def odd_things():
    """Things that are no word, no tree, no dates, no path and no way."""
    return [
        None, True, False, 0, 1, -1, 7, 10 ** 40, 0.0, 1.0, float("nan"), 1j, b"a", bytearray(b"a"),
        [], ["a"], ["a", "b"], {}, {"a": "b"}, set(), {"a"}, frozenset(["a"]), range(2), iter(("a", "b")),
        (), ("a",), ("a", "b", "a"), ("a", "b", "a", "b"), ("a", None), (None, "a"), ("a", 1), (True, "a"),
        ("a", ["a", "b"]), (("a",), "b"), ("a", ("b", "a", "b")), ("a", ()), ((), ()),
        "", "abcdefghi", "A", "aB", "a b", " a", "a ", "a\n", "a1", "1", "a-b", "a_b", "a,b", "(a,b)", "\u00e4",
        "\u0430", "\uff41", "\u00df", "\u00aa", "\x00", ("a", ""), ("", "a"), ("a", "abcdefghi"),
        object(), object, int, len, lambda: "a", Equal(), Grim(), ("a", Equal()), (Equal(), "a"), ("a", Grim()),
        (Grim(), Grim()), ((Grim(), "a"), ("a", Equal())), Exception("a"), NotImplemented, Ellipsis,
        nested("a", 60, lambda part: (part,)), nested((), 60, lambda part: (part, "a")),
        nested(None, 60, lambda part: ("a", part)), nested("a", 60, lambda part: [part, "a"]),
        nested("a", 60, lambda part: (part, "a", "a")), nested("A", 59, lambda part: (part, "a")),
        nested("a", 60, lambda part: {"a": part}), nested(Grim(), 60, lambda part: (part, "a")),
    ]


TREES = (
    "a", "abcdefgh", ("a", "b"), ("a", "a"), (("a", "b"), "c"), ("c", ("b", "a")), (("a", "b"), ("a", "b")),
    ((("d", "c"), "b"), "a"), (("d", "c"), ("b", "a")), ("zz", ("z", ("zzz", "y"))),
    ((("a", "b"), "c"), (("c", "b"), ("a", "a"))), leaning(50, True), leaning(50, False),
)

GREATS = (
    "a", "abcdefgh", ("a", "b"), ("b", "a"), (("a", "b"), "c"), ("c", ("a", "b")), (("a", "b"), ("c", "d")),
    ((("a", "b"), "c"), "d"), ("a", ("b", ("c", "d"))), ((("a", "b"), ("c", "d")), "e"),
    ((("a", "b"), "c"), ("d", ("e", "f"))), (("a", ("b", "c")), (("d", "e"), ("f", "g"))),
    ((("a", "b"), ("c", "d")), (("e", "f"), ("g", "h"))), ((((((("a", "b"), "c"), "d"), "e"), "f"), "g"), "h"),
)
