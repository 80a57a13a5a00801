"""Bytes and words: a word is a tuple of bytes, so that it may be a key."""

QUOTE = 34
OPENING = 40
CLOSING = 41
BLANK = 32
ROW_END = 10
MOST_DIGITS = 3


def spelled(text):
    return tuple([ord(sign) for sign in text])


def is_blank(byte):
    return byte == BLANK or byte == ROW_END


def is_word_byte(byte):
    return 33 <= byte <= 126 and byte not in (QUOTE, OPENING, CLOSING)


def is_small_letter(byte):
    return 97 <= byte <= 122


def is_capital_letter(byte):
    return 65 <= byte <= 90


def is_digit(byte):
    return 48 <= byte <= 57


def may_follow_in_name(byte):
    return is_small_letter(byte) or is_capital_letter(byte) or is_digit(byte) or byte == 39


def goes_on_as_name(word):
    return all([may_follow_in_name(byte) for byte in word[1:]])


# These three take any tree: one that is no word is a list, and no name or numeral.
def is_lower_name(tree):
    return isinstance(tree, tuple) and len(tree) > 0 and is_small_letter(tree[0]) and goes_on_as_name(tree)


def is_upper_name(tree):
    return isinstance(tree, tuple) and len(tree) > 0 and is_capital_letter(tree[0]) and goes_on_as_name(tree)


def is_numeral(tree):
    if not isinstance(tree, tuple) or not 1 <= len(tree) <= MOST_DIGITS:
        return False
    if len(tree) > 1 and tree[0] == 48:
        return False
    return all([is_digit(byte) for byte in tree])


def number_of(numeral):
    number = 0
    for byte in numeral:
        number = number * 10 + byte - 48
    return number


def numeral_of(number):
    return spelled(str(number))
