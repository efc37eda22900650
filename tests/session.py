"""Runs a session as the document shows it, line by line."""


def steps_of(text):
    """The pairs (line, what is shown behind it, or "")."""
    steps = []
    for line in text.strip().split("\n"):
        if line.startswith(">>> "):
            steps.append((line[4:], ""))
        else:
            steps[-1] = (steps[-1][0], line)
    return steps


def run_session(case, text, names):
    """Run a session in a dict of names, which later sessions may go on from."""
    for line, shown in steps_of(text):
        with case.subTest(line=line):
            if shown == "":
                exec(line, names)
            elif shown.startswith("raises "):
                check_raised(case, line, shown[len("raises "):], names)
            else:
                case.assertEqual(repr(eval(line, names)), shown)


def check_raised(case, line, shown, names):
    word, told = shown[:-1].split("(", 1)
    with case.assertRaises(ValueError) as caught:
        eval(line, names)
    case.assertEqual(type(caught.exception).__name__, word)
    case.assertEqual(vars(caught.exception), eval("dict(" + told + ")"))
