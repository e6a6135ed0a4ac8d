"""Questions about the parts of things, which callers may pass as any objects."""


def is_word(value, words):
    """Tell of any object whether it is one of the words."""
    return isinstance(value, str) and value in words


def is_row(thing):
    """Tell of any object whether it is a list or a tuple."""
    return isinstance(thing, (list, tuple))


def first_wrong(answers):
    """Return the word of the first pair of a word and an answer whose answer is False, or None."""
    for word, good in answers:
        if not good:
            return word
    return None
