"""An object of the program and the books for it: the two are asked the same, and must answer the same."""

import copy

import samples
from flagplans import errors


class Refused(Exception):
    """What the document requires instead of an answer.

    Its arguments are the class of the error, the name of its attribute, if it has one, and the value of the attribute,
    or a function that tells whether a value is right.
    """


def is_number(value, limit):
    """Whether a value is an integer from 0 on that is less than the limit."""
    return type(value) is int and 0 <= value < limit


class BooksWithMarks:
    """The books' part for marks, which a workspace and a mill have alike. The state is what a mark stores."""

    def __init__(self, state):
        self.state = state
        self.stored = []

    def marks(self):
        return list(range(len(self.stored)))

    def mark(self):
        if len(self.stored) == 6:
            raise Refused(errors.Full, "limit", 6)
        self.stored.append(copy.deepcopy(self.state))
        return len(self.stored) - 1

    def back(self, number):
        if not is_number(number, len(self.stored)):
            raise Refused(errors.InvalidMark, "number", number)
        self.state = copy.deepcopy(self.stored[number])
        del self.stored[number + 1:]


class Twin:
    """An object, its books, and what both have told of themselves. The methods in looks only tell."""

    def __init__(self, test, real, books, looks):
        self.test = test
        self.real = real
        self.books = books
        self.looks = looks
        self.kept = []
        self.seen = set()

    def look(self):
        """Compare all that the object tells of itself, whatever has become of the lists that it told before."""
        for name in self.looks:
            self.compare(name)

    def compare(self, name, *arguments):
        """Compare an answer, or an error, of both."""
        try:
            expected = getattr(self.books, name)(*arguments)
        except Refused as refusal:
            self.check_refused(refusal, name, arguments)
            self.seen.add((name, refusal.args[0].__name__))
        else:
            result = getattr(self.real, name)(*arguments)
            self.test.assertTrue(samples.same_kind(result, expected), (name, arguments, result, expected))
            self.seen.add((name, "returned"))
            if isinstance(result, list):
                self.kept.append((result, expected))
                result.append("more")

    def check_refused(self, refusal, name, arguments):
        """The object raises just this error, with the value that it has to keep."""
        error, attribute, value = refusal.args
        with self.test.assertRaises(error) as caught:
            getattr(self.real, name)(*arguments)
        self.test.assertIs(caught.exception.__class__, error)
        if attribute is not None:
            found = getattr(caught.exception, attribute)
            right = value(found) if callable(value) else samples.same_kind(found, value)
            self.test.assertTrue(right, (name, arguments, found))

    def ask(self, name, *arguments):
        """Call a method of both and compare what comes; then compare all that they tell of themselves."""
        before = copy.deepcopy(arguments)
        self.compare(name, *arguments)
        self.test.assertTrue(samples.same_kind(arguments, before))
        self.look()

    def check_kept(self):
        """The lists that were told and changed at once are what they were then."""
        for result, expected in self.kept:
            self.test.assertEqual(result, expected + ["more"])
