"""The rules of a book: what its answers make of the beginnings of marks."""

from quotedthreads.threads import made_of

END = "_"


def contexts_of(book):
    """What marks begin with, as far as a program looks: two signs of the book, or fewer and the end."""
    ended = [sign + END for sign in book.signs]
    return [END, *ended, *[first + second for first in book.signs for second in book.signs]]


def marks_of(context):
    """The marks of a context: what stands behind two signs decides nothing."""
    return context.replace(END, "")


def rules_of(book):
    """All rules (whom, context, who, program, made), None being made where the line is left out."""
    rules = []
    for who, program, whom in book.answers:
        for context in contexts_of(book):
            made = made_of(book, program, whom, marks_of(context))
            if made is not None and context.endswith(END):
                made = made + END
            rules.append((whom, context, who, program, made))
    return rules
