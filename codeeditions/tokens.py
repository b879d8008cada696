"""Cutting a text of signs into tokens."""

KEPT_WORDS = ("and", "or", "not", "from", "before", "rank", "to", "true", "false")

# 1000000, the greatest number in a right text, has seven digits.
MOST_DIGITS = 7


class Token:
    def __init__(self, place, signs):
        self.place = place
        self.signs = signs


def token_end(signs, place):
    """The place behind the token, or the blank, that begins at this place."""
    end = place + 1
    if signs[place].isalpha():
        while end < len(signs) and signs[end].isalpha():
            end += 1
    elif signs[place].isdigit():
        while end < len(signs) and signs[end].isdigit():
            end += 1
    return end


def tokens_of(signs):
    """The tokens in order, and behind them an empty one at the text's length.

    The empty one can stand nowhere but behind a whole condition: so a reader that
    misses something at the text's end stops at the text's length by itself.
    """
    tokens = []
    place = 0
    while place < len(signs):
        end = token_end(signs, place)
        if signs[place] != " ":
            tokens.append(Token(place, signs[place:end]))
        place = end
    tokens.append(Token(len(signs), ""))
    return tokens


def is_flag_word(signs):
    """Whether this is a word that may be a flag's."""
    return signs.isalpha() and signs not in KEPT_WORDS


def worth_of(signs):
    """What a number's digits say; -1 if this is no number that a right text may have."""
    if not signs.isdigit() or len(signs) > MOST_DIGITS:
        return -1
    if len(signs) > 1 and signs[0] == "0":
        return -1
    return int(signs)
