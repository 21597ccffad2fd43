"""Numbers that are written in digits."""

DIGITS = "0123456789"


def read_number(word, high):
    """Return the number from 0 to high that the word writes, or None if it writes none."""
    # int() refuses rows of thousands of digits, so the length is looked at first.
    if word == "" or len(word) > len(str(high)):
        return None
    if not all([sign in DIGITS for sign in word]):
        return None
    if word[0] == "0" and len(word) > 1:
        return None
    number = int(word)
    return number if number <= high else None
