"""Numbers in texts: decimal digits, with a minus before them if they are below 0."""

DIGITS = "0123456789"


def number_in(word, most):
    """The number that is written so, with at most so many digits, or None."""
    digits = word[1:] if word.startswith("-") else word
    if digits == "" or len(digits) > most or not all([letter in DIGITS for letter in digits]):
        return None
    if digits.startswith("0") and word != "0":
        return None
    return int(word)
