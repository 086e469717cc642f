"""Runs examples that are copied from DOC.md as they stand there."""


def run_examples(test, text, names):
    """Check each ">>>" line of the text against the line behind it, if any."""
    scope = dict(names)
    lines = [line.strip() for line in text.strip().splitlines()]
    for at, line in enumerate(lines):
        if not line.startswith(">>> "):
            continue
        told = lines[at + 1] if at + 1 < len(lines) else ""
        expected = "" if told.startswith(">>> ") else told
        with test.subTest(line=line):
            test.assertEqual(outcome(line[4:], scope), expected)


def outcome(code, scope):
    """What Python would print for this code, or "raises" and the error."""
    try:
        return shown(code, scope)
    except ValueError as error:
        told = [f"{name}={value!r}" for name, value in vars(error).items()]
        return f"raises {error.__class__.__name__}({', '.join(told)})"


def shown(code, scope):
    try:
        compiled = compile(code, "example", "eval")
    except SyntaxError:
        exec(code, scope)
        return ""
    value = eval(compiled, scope)
    return "" if value is None else repr(value)
