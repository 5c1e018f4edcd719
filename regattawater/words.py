"""Lines, words, names and numbers of a text."""

from regattawater.places import FARTHEST, pair_up
from regattawater.refusals import WrongLine

LINE_END = 10
FIRST_SIGN = 32
LAST_SIGN = 126

# The signs of the bytes 32 to 126. A question mark also stands for byte 37, whose sign the rules of the code keep out:
# outside of a remark both are wrong wherever they stand.
SIGNS = " !\"#$?&'()*+,-./0123456789:;<=>?@ABCDEFGHIJKLMNOPQRSTUVWXYZ[\\]^_`abcdefghijklmnopqrstuvwxyz{|}~"

LONGEST_NAME = 12
MOST_DIGITS = 7


def lines_of(text):
    lines = []
    line = []
    for byte in text:
        if byte == LINE_END:
            lines.append(line)
            line = []
        else:
            line.append(byte)
    if len(line) > 0:
        lines.append(line)
    return lines


def sign_of(byte):
    if byte < FIRST_SIGN or byte > LAST_SIGN:
        raise WrongLine()
    return SIGNS[byte - FIRST_SIGN]


def words_of(line):
    signs = "".join([sign_of(byte) for byte in line])
    return signs.partition("#")[0].split()


def bytes_of(text):
    return [ord(sign) for sign in text]


def read_name(word):
    if len(word) > LONGEST_NAME or not word.isalnum():
        raise WrongLine()
    return word


def read_number(word):
    digits = word[1:] if word.startswith("-") else word
    if len(digits) > MOST_DIGITS or not digits.isdigit():
        raise WrongLine()
    number = int(word)
    # A number has one way to be written: this tells zeros in front and -0.
    if str(number) != word or abs(number) > FARTHEST:
        raise WrongLine()
    return number


def read_places(words):
    if len(words) % 2 != 0:
        raise WrongLine()
    return pair_up([read_number(word) for word in words])
