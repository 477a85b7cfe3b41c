"""Runs examples that are written as in the document: `>>>` lines, then what they return or raise."""

from unlikekeys import errors


def check_example(case, text):
    """Run one example; its last line tells what the last `>>>` line returns or raises."""
    *lines, expected = text.strip().split("\n")
    sources = [line.removeprefix(">>> ") for line in lines]
    names = {}
    for source in sources[:-1]:
        exec(source, names)
    if expected.startswith("raises "):
        check_raises(case, sources[-1], expected.removeprefix("raises "), names)
    else:
        case.assertEqual(repr(eval(sources[-1], names)), expected)


def check_raises(case, source, error, names):
    expected = eval(error, vars(errors).copy())
    with case.assertRaises(errors.UnlikeError) as caught:
        eval(source, names)
    case.assertIs(type(caught.exception), type(expected))
    case.assertEqual(repr(vars(caught.exception)), repr(vars(expected)))
