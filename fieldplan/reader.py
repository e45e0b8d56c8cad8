"""Going through a text from left to right."""

from fieldplan.signs import DIGIT_0, NO_SIGN, is_digit, is_name_sign


class Reader:
    """A text, the place that the reading has come to, and how many leaves it has met."""

    def __init__(self, text):
        self.text = text
        self.place = 0
        self.leaves = 0

    def sign_here(self):
        if self.place < len(self.text):
            return self.text[self.place]
        return NO_SIGN

    def skip_sign(self):
        self.place = self.place + 1

    def take_digits(self):
        """The longest run of digits at the place, which may be empty."""
        start = self.place
        while is_digit(self.sign_here()):
            self.skip_sign()
        return self.text[start:self.place]

    def take_name_signs(self):
        """The longest run of signs that names have, which may be empty."""
        start = self.place
        while is_name_sign(self.sign_here()):
            self.skip_sign()
        return self.text[start:self.place]


def number_of(digits):
    number = 0
    for digit in digits:
        number = 10 * number + digit - DIGIT_0
    return number
