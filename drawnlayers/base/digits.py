"""Numbers that are written in digits."""

DIGITS = "0123456789"

# Great numbers are written by rows of so many digits.
ROW = 60
ROW_END = 10 ** 60


def read_number(word, high):
    """Return the number from 0 to high that the word writes, or None if it writes none."""
    # int() refuses rows of thousands of digits, so the length is looked at first.
    if word == "" or len(word) > len(str(high)):
        return None
    if not all([sign in DIGITS for sign in word]):
        return None
    if word[0] == "0" and len(word) > 1:
        return None
    number = int(word)
    return number if number <= high else None


def read_signed(word, high):
    """Return the number from -high to high that the word writes, or None if it writes none."""
    if not word.startswith("-"):
        return read_number(word, high)
    number = read_number(word[1:], high)
    return None if number is None or number == 0 else -number


def write_number(number):
    """Return the number in digits, behind a - if it is negative."""
    if number < 0:
        return "-" + write_number(-number)
    # str() refuses numbers of thousands of digits.
    rows = []
    while number >= ROW_END:
        rows.append(str(number % ROW_END).zfill(ROW))
        number = number // ROW_END
    return "".join([str(number), *rows[::-1]])
