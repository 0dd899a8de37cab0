"""What a name looks like."""

LETTERS = "abcdefghijklmnopqrstuvwxyz"
LONGEST_NAME = 8


def all_letters(text):
    """Whether the text consists of one or more lower-case letters."""
    return text != "" and all([letter in LETTERS for letter in text])


def is_name(text):
    """Whether the text is a name of one to eight lower-case letters."""
    return len(text) <= LONGEST_NAME and all_letters(text)
