"""What a word is, how a number is written, and how wide numbers are."""

# 2 ** 32, written out.
WIDE = 4294967296

LETTERS = "abcdefghijklmnopqrstuvwxyz"
FIGURES = "0123456789"
LONGEST = 8


def is_word(text):
    if len(text) < 1 or len(text) > LONGEST:
        return False
    return all([sign in LETTERS for sign in text])


# A number is looked at sign by sign: int would also take blanks, underscores and figures of other alphabets.
def is_number(text, most):
    if len(text) < 1 or len(text) > most:
        return False
    if len(text) > 1 and text[0] == "0":
        return False
    return all([sign in FIGURES for sign in text])
