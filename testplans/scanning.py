"""The tokens of a text: words, numbers and signs."""

from testplans.faults import BAD_TOKEN, STRANGE_BYTE, Fault

WORD = "word"
NUMBER = "number"
SIGN = "sign"
END = "end"

LETTERS = "abcdefghijklmnopqrstuvwxyz"
DIGITS = "0123456789"
GAPS = (9, 10, 13, 32)
LINE_FEED = 10

LONGEST_WORD = 12
LONGEST_NUMBER = 4
GREATEST_NUMBER = 1000


class Token:
    """A token, as it is written, with the place of its first byte; END is written as nothing."""

    def __init__(self, kind, written, place):
        self.kind = kind
        self.written = written
        self.place = place


def token_from(text, place):
    """The first token of a text from a place on; raises the Fault of a token that is none."""
    start = skip_gaps(text, place)
    if start == len(text):
        return Token(END, "", start)
    byte = text[start]
    if is_letter(byte):
        return word_at(text, start)
    if is_digit(byte):
        return number_at(text, start)
    if byte == ord(","):
        return Token(SIGN, ",", start)
    if byte == ord(";"):
        return Token(SIGN, ";", start)
    raise Fault(STRANGE_BYTE, start)


def skip_gaps(text, place):
    """The first place from one on that lies in no gap and no remark."""
    while place < len(text):
        if text[place] in GAPS:
            place += 1
        elif text[place] == ord("#"):
            place = remark_end(text, place)
        else:
            return place
    return place


def remark_end(text, place):
    """The place of the next line feed, or the text's length."""
    while place < len(text) and text[place] != LINE_FEED:
        place += 1
    return place


def word_at(text, place):
    """The word that begins at a place."""
    end = place
    while end < len(text) and is_word_byte(text[end]):
        end += 1
    if end - place > LONGEST_WORD:
        raise Fault(BAD_TOKEN, place)
    return Token(WORD, characters(text[place:end]), place)


def number_at(text, place):
    """The number that begins at a place."""
    end = place
    while end < len(text) and is_digit(text[end]):
        end += 1
    digits = characters(text[place:end])
    if not is_number(digits):
        raise Fault(BAD_TOKEN, place)
    return Token(NUMBER, digits, place)


def is_number(digits):
    """Whether a row of digits is a number that may be written."""
    if len(digits) > LONGEST_NUMBER:
        return False
    if digits.startswith("0"):
        return digits == "0"
    return int(digits) <= GREATEST_NUMBER


def is_letter(byte):
    """Whether a byte is a small letter."""
    return ord("a") <= byte <= ord("z")


def is_digit(byte):
    """Whether a byte is a digit."""
    return ord("0") <= byte <= ord("9")


def is_word_byte(byte):
    """Whether a byte may stand in a word behind its first."""
    return is_letter(byte) or is_digit(byte) or byte == ord("_")


def characters(word_bytes):
    """The text that the bytes of a word or number are."""
    return "".join([character(byte) for byte in word_bytes])


def character(byte):
    """The small letter, digit or _ that a byte is."""
    if is_letter(byte):
        return LETTERS[byte - ord("a")]
    if is_digit(byte):
        return DIGITS[byte - ord("0")]
    return "_"
