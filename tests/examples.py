"""Runs examples that are written as in the interface of DOC.md."""

import ast

import keptanyhow.errors


def parts_of(text):
    """The pairs of each statement behind ">>> " and the line below it, None if that is another statement."""
    found = []
    for line in text.strip().split("\n"):
        if line.startswith(">>> "):
            found.append((line[4:], None))
        else:
            found[-1] = (found[-1][0], line)
    return found


def error_told(line):
    """The class and the fields of an error that is told as "raises BadTree(index=0)"."""
    call = ast.parse(line[len("raises "):], mode="eval").body
    if isinstance(call, ast.Name):
        return getattr(keptanyhow.errors, call.id), {}
    fields = {word.arg: ast.literal_eval(word.value) for word in call.keywords}
    return getattr(keptanyhow.errors, call.func.id), fields


def run_examples(case, text):
    """Run the statements of a text in order, each compared with the line below it."""
    names = {}
    for statement, told in parts_of(text):
        with case.subTest(statement=statement):
            if told is None:
                exec(statement, names)
            elif told.startswith("raises "):
                kind, fields = error_told(told)
                with case.assertRaises(kind) as caught:
                    eval(statement, names)
                case.assertIs(kind, caught.exception.__class__)
                case.assertEqual(fields, caught.exception.__dict__)
            else:
                case.assertEqual(told, repr(eval(statement, names)))
