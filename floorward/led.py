"""Average loops that are led round by round."""

from floorward.averages import do_round, next_guess, require_start
from floorward.errors import NoGuess
from floorward.numbers import require_number, root


class Led:
    """A run of an average loop that can be led on, changed and taken back."""

    def __init__(self, loop, n, start):
        require_number(n)
        require_start(start)
        self.loop = loop
        self.n = n
        self.guess = start
        self.before = None
        self.told = None
        self.floor = root(n, loop.k)
        # What guess, before and told were ahead of each thing that can be taken back, the last one at the end.
        self.past = []

    def round(self):
        """Do the round of the present guess; return "goes" or "told"."""
        if self.told is not None:
            return "told"
        word, number = do_round(self.loop, self.floor, lambda x: next_guess(self.loop, self.n, x), self.before,
                                self.guess)
        if word == "nought":
            raise NoGuess()
        self.keep()
        if word == "told":
            self.told = number
        else:
            self.before = self.guess
            self.guess = number
        return word

    def put(self, guess):
        """Put another guess in the place of the present one."""
        require_start(guess)
        self.keep()
        self.guess = guess
        self.before = None
        self.told = None

    def keep(self):
        """Note what is so now, to take back what comes next."""
        self.past.append((self.guess, self.before, self.told))

    def undo(self):
        """Take back the last round or put; tell whether there was one."""
        if not self.past:
            return False
        self.guess, self.before, self.told = self.past.pop()
        return True

    def trial(self, work):
        """Return what work(self) returns, and leave all behind it as it was."""
        guess, before, told, past = self.guess, self.before, self.told, list(self.past)
        try:
            return work(self)
        finally:
            self.guess, self.before, self.told, self.past = guess, before, told, past

    def twin(self):
        """Return another led loop that is as this one is and goes its own way."""
        # The guess may be 0, which is no start.
        other = Led(self.loop, self.n, 1)
        other.guess = self.guess
        other.before = self.before
        other.told = self.told
        other.past = list(self.past)
        return other
