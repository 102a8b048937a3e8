"""Lists of numbers that are read one number behind another."""

LAST_FILE = 9
LAST_TOKEN = 99


class NotWhole(ValueError):
    pass


class Reader:
    def __init__(self, numbers):
        self.numbers = numbers
        self.at = 0

    # A count is held to its range before anything is read by it, so that a huge one costs nothing.
    def read_number(self, least, most):
        if self.at >= len(self.numbers):
            raise NotWhole("a number is missing")
        number = self.numbers[self.at]
        if number < least or number > most:
            raise NotWhole("a number is out of its range")
        self.at += 1
        return number

    def read_file(self):
        return self.read_number(0, LAST_FILE)

    def read_token(self):
        return self.read_number(0, LAST_TOKEN)

    def read_tokens(self, most):
        count = self.read_number(0, most)
        return tuple([self.read_token() for place in range(count)])

    def read_end(self):
        if self.at < len(self.numbers):
            raise NotWhole("something is left over")
