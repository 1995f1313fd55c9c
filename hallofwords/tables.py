"""The table of a Learner: rows and columns of words, and what is still to be asked for it."""

from hallofwords.errors import TooGreat
from hallofwords.letters import in_order
from hallofwords.machines import is_taken, least, run

MOST_ROWS = 20


class Stand:
    """Where a Learner stands: its rows, its columns, the word in hand, and how far the table was gone through.

    In hand is None or a tuple (word, low, high). Done is the number of the rows with one letter more
    that were gone through since the last column came; nothing of a stand is ever changed.
    """

    def __init__(self, rows, columns, hand, done):
        self.rows = rows
        self.columns = columns
        self.hand = hand
        self.done = done


def marks_of(known, word, columns):
    """Return the marks of the word."""
    return tuple([known[word + column] for column in columns])


def first_unknown(known, words):
    """Return the first one of the words that is not told, or None."""
    for word in words:
        if word not in known:
            return word
    return None


def gone_through(letters, known, stand):
    """Return the word that is asked when the table is gone through, or None, and the stand, or raise TooGreat."""
    rows = list(stand.rows)
    columns = stand.columns
    done = stand.done
    asked = None
    if done == 0:
        asked = first_unknown(known, [row + column for row in rows for column in columns])
    if asked is not None:
        return asked, stand
    marked = {marks_of(known, row, columns): True for row in rows}
    while done < len(rows) * len(letters):
        word = rows[done // len(letters)] + letters[done % len(letters)]
        asked = first_unknown(known, [word + column for column in columns])
        if asked is not None:
            break
        if marks_of(known, word, columns) not in marked:
            marked[marks_of(known, word, columns)] = True
            rows.append(word)
            if len(rows) > MOST_ROWS:
                raise TooGreat()
        done += 1
    return asked, Stand(rows, columns, None, done)


def machine_of_table(letters, known, stand):
    """Return the machine of a table that was gone through."""
    places = {marks_of(known, row, stand.columns): place for place, row in enumerate(stand.rows)}
    table = [[places[marks_of(known, row + sign, stand.columns)] for sign in letters] for row in stand.rows]
    return table, [known[row] for row in stand.rows]


def taken_in_hand(letters, known, stand):
    """Return the first told word that the machine of the table answers otherwise, or None."""
    machine = machine_of_table(letters, known, stand)
    wrong = [word for word, told in known.items() if is_taken(letters, machine, word) != told]
    return in_order(letters, wrong)[0] if wrong else None


def brought_together(letters, known, stand):
    """Return the word that is asked for the word in hand, or None when a column came of it, and the stand."""
    word, low, high = stand.hand
    machine = machine_of_table(letters, known, stand)
    while high - low > 1:
        middle = (low + high) // 2
        asked = stand.rows[run(letters, machine, word[:middle])] + word[middle:]
        if asked not in known:
            return asked, Stand(stand.rows, stand.columns, (word, low, high), stand.done)
        if known[asked] == known[word]:
            low = middle
        else:
            high = middle
    return None, Stand(stand.rows, stand.columns + [word[high:]], None, 0)


def next_question(letters, known, stand):
    """Return the question behind the told words, and the stand at it, or raise TooGreat."""
    while True:
        if stand.hand is not None:
            asked, stand = brought_together(letters, known, stand)
            if asked is not None:
                return ("word", asked), stand
        asked, stand = gone_through(letters, known, stand)
        if asked is not None:
            return ("word", asked), stand
        word = taken_in_hand(letters, known, stand)
        if word is None:
            return ("same", least(letters, machine_of_table(letters, known, stand))), stand
        stand = Stand(stand.rows, stand.columns, (word, 0, len(word)), stand.done)
