"""The rules of a book: what its answers make of the beginnings of marks."""

END = "_"


def contexts_of(book):
    """What marks begin with, as far as a program looks: two signs of the book, or fewer and the end."""
    ended = [sign + END for sign in book.signs]
    return [END, *ended, *[first + second for first in book.signs for second in book.signs]]


def marks_of(context):
    """The marks of a context: what stands behind two signs decides nothing."""
    return context.replace(END, "")


def rules_of(book):
    """All rules (whom, context, who, program, made), None being made where the line is left out."""
    contexts = contexts_of(book)
    # Who answers makes no difference to what is made, and whom only where a put has an @.
    drafts = {}
    rules = []
    for who, program, whom in book.answers:
        if program not in drafts:
            drafts[program] = _drafts(book.program(program), contexts)
        own = book.own(whom)
        for context, draft in zip(contexts, drafts[program]):
            made = None if draft is None else draft.replace("@", own)
            rules.append((whom, context, who, program, made))
    return rules


def _drafts(program, contexts):
    """What a program makes of each context, with each @ of a put as it is."""
    drafts = []
    for context in contexts:
        begin, _, put = program.cases[program.taken(marks_of(context))]
        drafts.append(None if put is None else put + context[len(begin):])
    return drafts
