"""Values of all kinds, for what takes any value."""

from askorhold.errors import Wrong


def deep(many, make):
    thing = make(())
    for _ in range(many):
        thing = make((thing,))
    return thing


ANY = (
    None, True, False, 0, 1, -1, 10 ** 49, "", " ", "a", "fun", "if", "fault", "number", "~", "\n", [], [[]], [1], (), ((),),
    {}, {"a": 1}, {(1,): [2]}, {True: ()}, Wrong(0), Wrong, (None,), ("a",), ("a", ()), ("a", []), ["a", ()],
    ("fault",), ("fault", "zero"), ("fault", "kind", "kind"), ["fault", "kind"], ("fault", ("kind",)), ("fault", None),
    (("fault", "kind"), 1), ([],), ({},), ("number",), ("number", "1"), ("one", [], ()), ("two", {}, (), ()),
    ("name", []), ("call", "f", []), ("let", "a", None, None), (0, 1), (0, 1, 2), (1, (2, [3])), b"a", 1.5,
    deep(20, list), deep(20, tuple), [deep(18, list)] * 100, ("a", deep(18, list)),
)
