"""Words, read as kind, far and place."""

WORDS = 1024
PLACES = 64

AND = 0
ADD = 1
RISE = 2
PUT = 3
CALL = 4
GO = 5
ASK = 6
BITS = 7


def word(kind, far, place):
    return kind * 128 + far * 64 + place


def parts(word):
    return (word // 128, word % 128 // 64, word % 64)
