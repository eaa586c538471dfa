"""Numbers in decimal digits."""


def is_numeral(text):
    """Whether the string is a number in decimal digits without leading zeros."""
    if not text.isascii() or not text.isdigit():
        return False
    return text == "0" or text[0] != "0"
