"""Wording: names, numbers and conditions as texts write them."""

from watchyard.conds import BoxCond, WatchCond

LETTERS = "abcdefghijklmnopqrstuvwxyz"
DIGITS = "0123456789"
MOST_LETTERS = 8
MOST_DIGITS = 31
WATCH_SIGNS = ("<", "<=", "==", ">=", ">")
BOX_SIGNS = ("<", "<=", "==", "!=", ">=", ">")
MOST_TIME = 60
MOST_BOX = 20


def is_name(word):
    return 1 <= len(word) <= MOST_LETTERS and all([letter in LETTERS for letter in word])


def number_of(word, low, high):
    digits = word[1:] if word.startswith("-") else word
    # The length is looked at first: Python itself reads no digits by the thousand.
    if not 1 <= len(digits) <= MOST_DIGITS or not all([digit in DIGITS for digit in digits]):
        return None
    if digits.startswith("0") and word != "0":
        return None
    number = int(word)
    return number if low <= number <= high else None


def cond_of(watches, boxes, words):
    if words[0] in watches:
        against = number_of(words[2], 0, MOST_TIME)
        if words[1] in WATCH_SIGNS and against is not None:
            return WatchCond(watches.index(words[0]), words[1], against)
    if words[0] in boxes:
        against = number_of(words[2], -MOST_BOX, MOST_BOX)
        if words[1] in BOX_SIGNS and against is not None:
            return BoxCond(boxes.index(words[0]), words[1], against)
    return None
