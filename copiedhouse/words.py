"""What a word is, and how wide numbers are."""

# 2 ** 32, written out.
WIDE = 4294967296

LETTERS = "abcdefghijklmnopqrstuvwxyz"
LONGEST = 8


def is_word(text):
    if len(text) < 1 or len(text) > LONGEST:
        return False
    return all([sign in LETTERS for sign in text])
