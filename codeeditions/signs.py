"""Rows of bytes as texts of signs, and back."""

LETTERS = "abcdefghijklmnopqrstuvwxyz"
DIGITS = "0123456789"

# Stands for every byte that no right text has: which byte it was never matters.
STRAY = "?"


def sign_of(byte):
    if 97 <= byte <= 122:
        return LETTERS[byte - 97]
    if 48 <= byte <= 57:
        return DIGITS[byte - 48]
    if byte == 32:
        return " "
    if byte == 40:
        return "("
    if byte == 41:
        return ")"
    return STRAY


def signs_of(row):
    """A row of bytes as a text with one sign for each byte."""
    return "".join([sign_of(byte) for byte in row])


def row_of(signs):
    """A text of signs as a row of bytes."""
    return [ord(sign) for sign in signs]
