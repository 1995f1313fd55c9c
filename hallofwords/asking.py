"""Learning the least machine of words by asking one who knows them."""

from hallofwords.errors import BadAnswer, BadEntry, Contradiction, HallError, NoQuestion, NothingToUndo
from hallofwords.letters import check_letters
from hallofwords.machines import is_taken, run
from hallofwords.tables import Stand, next_question

MOST_ANSWERED = 200


def new_question(question):
    """Return the question with a new machine, where it has one."""
    kind, asked = question
    if kind == "word":
        return question
    table, ends = asked
    return (kind, ([list(row) for row in table], list(ends)))


def is_told_word(letters, value):
    """Tell whether the value is a word that may be the answer where a machine is asked."""
    if not isinstance(value, str) or len(value) > MOST_ANSWERED:
        return False
    return all(sign in letters for sign in value)


class Learner:
    """Asks questions about words, and finds their least machine."""

    def __init__(self, letters):
        check_letters(letters)
        self.letters = letters
        # The told words, each with True or False.
        self.known = {}
        # For each answer the question, the answer, the word that it told or None, and the stand ahead of it.
        self.given = []
        self.asked, self.stand = next_question(letters, self.known, Stand([""], [""], None, 0))

    def question(self):
        """Return the question."""
        return new_question(self.asked)

    def answer(self, value):
        """Take the answer to the question, or raise the error that is due."""
        kind, asked = self.asked
        if kind == "done":
            raise NoQuestion()
        if kind == "word":
            if not isinstance(value, bool):
                raise BadAnswer()
            self.take(value, asked, value)
        elif value is None:
            self.given.append((self.asked, None, None, self.stand))
            self.asked = ("done", asked)
        else:
            if not is_told_word(self.letters, value):
                raise BadAnswer()
            if value in self.known:
                raise Contradiction(value)
            self.take(value, value, not is_taken(self.letters, asked, value))

    def take(self, value, word, told):
        """Take an answer by which the word is told, or raise TooGreat."""
        known = {before: mark for before, mark in self.known.items()}
        known[word] = told
        asked, stand = next_question(self.letters, known, self.stand)
        self.given.append((self.asked, value, word, self.stand))
        self.known = known
        self.asked = asked
        self.stand = stand

    def paper(self):
        """Return the leastness paper of the machine that is asked or found, or None."""
        kind, machine = self.asked
        if kind == "word":
            return None
        states = {run(self.letters, machine, row): row for row in self.stand.rows}
        return [states[state] for state in sorted(list(states))], list(self.stand.columns)

    def log(self):
        """Return the answers, each with the two elements of its question ahead of it."""
        return [new_question(question) + (value,) for question, value, _, _ in self.given]

    def undo(self):
        """Take the last answer back, or raise NothingToUndo."""
        if not self.given:
            raise NothingToUndo()
        self.asked, _, word, self.stand = self.given.pop()
        if word is not None:
            del self.known[word]


def relearned(letters, log):
    """Return a Learner that has been given the answers of the log, or raise BadLetters or BadEntry."""
    learner = Learner(letters)
    for place, (kind, asked, value) in enumerate(log):
        if learner.question() != (kind, asked):
            raise BadEntry(place)
        try:
            learner.answer(value)
        except HallError:
            raise BadEntry(place)
    return learner
