"""Wrong inputs, and what a refusal is held against."""

from risefall import errors

KINDS = (errors.BadWord, errors.BadNumber, errors.BadOrder, errors.BadRow)


class Plain:
    """An object of no kind that the document names."""


class Like:
    """An object that says it is like everything."""

    def __eq__(self, other):
        return True

    __hash__ = None


def of_every_kind():
    """Values that are neither a text nor a list, numbers with a point left out."""
    return [
        None, True, False, 0, 1, -1, 10**40, (), (1,), (1, 2), ("u", "d"), {}, {1: 2}, {"u": "d"},
        set(), {1, 2}, {"u"}, frozenset(), frozenset([1, 2]), b"", b"ud", bytearray(b"ud"),
        range(0), range(3), iter([1, 2]), iter("ud"), (n for n in (1, 2)), enumerate([1]),
        zip([1], [2]), {1: 2}.keys(), {1: 2}.values(), memoryview(b"ud"), slice(1, 2), len, str,
        int, list, errors.BadWord, errors.BadWord("ud"), lambda: "ud", Plain(), Like(), Ellipsis,
        NotImplemented, errors,
    ]


def refused_by(test, kind, call, *handed):
    """Hold that the call is refused with the kind, and with no other one of the four."""
    told = [type(value).__name__ for value in handed]
    try:
        answer = call(*handed)
    except Exception as error:
        held = [each for each in KINDS if isinstance(error, each)]
        test.assertEqual(held, [kind], f"{error!r} for {told}")
        test.assertIsInstance(error, errors.RiseError)
        test.assertIsInstance(error, ValueError)
    else:
        test.fail(f"{answer!r} for {told}, where {kind.__name__} is asked for")
