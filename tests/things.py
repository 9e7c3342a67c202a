"""Values of all kinds, for what takes any value."""

from askorhold.errors import Wrong


def deep(many, make):
    thing = make(())
    for _ in range(many):
        thing = make((thing,))
    return thing


ANY = (
    None, True, False, 0, 1, -1, 10 ** 49, "", " ", "a", "fun", "if", "fault", "number", "~", "\n", [], [[]], [1], (), ((),),
    {}, {"a": 1}, {(1,): [2]}, {True: ()}, Wrong(0), Wrong, (None,), ("a",), ("a", ()), ("a", []), ["a", ()],
    ("fault",), ("fault", "zero"), ("fault", "kind", "kind"), ["fault", "kind"], ("fault", ("kind",)), ("fault", None),
    (("fault", "kind"), 1), ([],), ({},), ("number",), ("number", "1"), ("one", [], ()), ("two", {}, (), ()),
    ("name", []), ("call", "f", []), ("let", "a", None, None), (0, 1), (0, 1, 2), (1, (2, [3])), b"a", 1.5,
    deep(20, list), deep(20, tuple), [deep(18, list)] * 100, ("a", deep(18, list)),
)


def others(part):
    """Values that stand for one part of a thing, each unlike it or of another kind."""
    if isinstance(part, bool):
        return [not part, int(part), None]
    if isinstance(part, int):
        return [part + 1, part - 1, str(part), (part,)] + ([bool(part)] if part in (0, 1) else [])
    if isinstance(part, str):
        return [part + "a", "", None, [part]]
    if isinstance(part, tuple):
        return [list(part), part + (None,), part[1:], part + part[:1], None] + ([part[::-1]] if len(part) > 1 else [])
    if isinstance(part, dict):
        return [list(part), None, ()]
    return [0, ()]


def spoiled(thing):
    """All things that are as this one, but for one part, at any depth."""
    yield from others(thing)
    if isinstance(thing, tuple):
        for at, part in enumerate(thing):
            for other in spoiled(part):
                yield thing[:at] + (other,) + thing[at + 1:]


def spoiled_dicts(table):
    """All dicts that are as this one, but for one key or one value, or have one less."""
    for key in table:
        rest = {other: table[other] for other in table if other != key}
        yield rest
        for other in spoiled(key):
            if not holds_list(other):
                yield {**rest, other: table[key]}
        for other in spoiled_value(table[key]):
            yield {**rest, key: other}


def spoiled_value(value):
    yield from others(value)
    if isinstance(value, dict):
        yield from spoiled_dicts(value)


def holds_list(thing):
    return isinstance(thing, (list, dict)) or isinstance(thing, tuple) and any(holds_list(part) for part in thing)
