"""Runs the examples of the document's interface as they stand there."""


def run_examples(case, text):
    """Check each example of a heading against the line below it."""
    names = {}
    lines = text.strip().split("\n")
    for at, line in enumerate(lines):
        if not line.startswith(">>> "):
            continue
        source = line[len(">>> "):]
        expected = lines[at + 1] if at + 1 < len(lines) else ""
        if expected == "" or expected.startswith(">>> "):
            exec(source, names)
        elif expected.startswith("raises "):
            check_error(case, source, names, expected[len("raises "):])
        else:
            case.assertEqual(repr(eval(source, names)), expected, source)


def check_error(case, source, names, error_name):
    """Check that an example raises exactly the error of this name."""
    from widthrules import errors
    with case.assertRaises(errors.WidthError) as caught:
        eval(source, names)
    case.assertEqual(caught.exception.__class__, getattr(errors, error_name), source)
