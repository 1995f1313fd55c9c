"""Scribes, which write the answer of a word as soon as it is sure."""

from hallofwords.answers import one_answer
from hallofwords.errors import BadSize, NotOne, NoWord
from hallofwords.rests import common_begin

MOST_READ = 400


class Scribe:
    """Reads a word piece by piece, and writes what all answers begin with that are still possible."""

    def __init__(self, letters, turner):
        is_one, _ = one_answer(letters, turner)
        if not is_one:
            raise NotOne()
        begins = answer_begins(turner)
        if 0 not in begins:
            raise NoWord()
        moves, ends = turner
        self.letters = letters
        self.moves = [[list(listed) for listed in row] for row in moves]
        self.ends = [list(words) for words in ends]
        # For each state from which answers come the longest word with which they all begin.
        self.begins = begins
        self.read = ""
        # For each of these states to which what is read leads the word that is written on the way.
        self.reached = {0: ""}
        self.written = begins[0]

    def feed(self, piece):
        """Read the piece and return what is written by it, or raise BadSize or NoWord."""
        if len(self.read) + len(piece) > MOST_READ:
            raise BadSize(len(self.read) + len(piece))
        reached = self.led_on(piece)
        if not reached:
            raise NoWord()
        ahead = len(self.written)
        self.read = self.read + piece
        self.reached = reached
        self.written = begin_of_all([told + self.begins[state] for state, told in reached.items()])
        return self.written[ahead:]

    def led_on(self, piece):
        """Return the states from which answers come and to which the piece leads, with the words on the way."""
        reached = self.reached
        for sign in piece:
            at = self.letters.index(sign)
            reached = {
                behind: told + more
                for state, told in reached.items()
                for more, behind in self.moves[state][at]
                if behind in self.begins
            }
        return reached

    def told(self):
        """Return all that is written since the beginning of the word."""
        return self.written

    def heard(self):
        """Return all that is read since the beginning of the word."""
        return self.read

    def finish(self):
        """Return what is left of the answer and begin anew, or raise NoWord."""
        answers = [told + end for state, told in self.reached.items() for end in self.ends[state]]
        if not answers:
            raise NoWord()
        left = answers[0][len(self.written):]
        self.read = ""
        self.reached = {0: ""}
        self.written = self.begins[0]
        return left


def begin_of_all(words):
    """Return the longest word with which all of the words begin."""
    found = words[0]
    for word in words[1:]:
        found = common_begin(found, word)
    return found


def some_answers(turner):
    """Return for each state from which answers come one of them, as a dict."""
    moves, ends = turner
    found = {state: words[0] for state, words in enumerate(ends) if words}
    many = -1
    while len(found) > many:
        many = len(found)
        for state, row in enumerate(moves):
            behind = [word + found[reached] for listed in row for word, reached in listed if reached in found]
            if state not in found and behind:
                found[state] = behind[0]
    return found


def answer_begins(turner):
    """Return for each state from which answers come the longest word with which they all begin, as a dict."""
    moves, ends = turner
    found = some_answers(turner)
    before = {}
    # Each word is shortened until it is a begin of all that is written behind the state.
    while found != before:
        before = found
        found = {}
        for state, begin in before.items():
            leading = [move for listed in moves[state] for move in listed]
            behind = [word + before[reached] for word, reached in leading if reached in before]
            found[state] = begin_of_all([begin] + ends[state] + behind)
    return found
