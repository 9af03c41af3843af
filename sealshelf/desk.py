"""A desk: a Vault that is led and asked by strings ([74])."""

from sealshelf.errors import InvalidCommand, InvalidText
from sealshelf.livesteps import is_step_word
from sealshelf.livevaults import Vault, lead_text
from sealshelf.readings import check_end, number_of, word_at
from sealshelf.rowreadings import name_of, names_of, read_goal, read_log, read_step
from sealshelf.steprows import names_text, step_row
from sealshelf.texts import box_text, keys_text, thing_text

# The kinds of the words behind those commands that have a fixed number of them.
ASKED = {"due": (), "holders": (), "records": (), "readers": ("name",), "leads": ("name",), "newest": ("name",),
         "lying": (), "needless": (), "box": ("number",), "room": (), "exposed": (), "had": ("group", "way"),
         "undo": (), "count": (), "log": (), "table": (), "new": ()}


class Desk:
    """A Vault that is led and asked by strings."""

    def __init__(self):
        self._vault = Vault()
        self._strings = 0

    def say(self, text):
        """The answer to any string; InvalidCommand, or an error of the Vault."""
        self._strings += 1
        word, parts = read_command(text)
        return self._answer(word, parts)

    def counts(self):
        """The numbers of started and of finished strings."""
        # Each one is finished when its answer is there, or its error.
        return (self._strings, self._strings)

    def _answer(self, word, parts):
        """The answer to a command."""
        if word == "step":
            return answer_text(self._vault.go(*parts))
        if word == "bars":
            barring = self._vault.barred(*parts)
            return "-" if barring is None else barring
        if word == "try":
            _, room = self._vault.tried(*parts)
            return str(room)
        if word == "turnfor":
            return str(self._vault.turn_for(parts))
        if word == "undo":
            return step_row(self._vault.undo())
        if word == "new":
            self._vault = Vault()
            return "ok"
        return asked_about(self._vault, word, *parts) if ASKED[word] else asked(self._vault, word)


def asked(vault, word):
    """What a Vault tells at a command of one word."""
    if word == "due":
        return spaced([f"{record}.{side}={names_text(readers)}" for record, side, readers in vault.due_goals()])
    if word == "holders":
        return spaced(vault.holders())
    if word == "records":
        return spaced(vault.records())
    if word == "lying":
        return keys_text(vault.lying())
    if word == "needless":
        return keys_text(vault.needless())
    if word == "room":
        return str(vault.room())
    if word == "exposed":
        return spaced([thing_text(text) for text in vault.exposed()])
    if word == "count":
        return str(len(vault.log()))
    if word == "log":
        return str(vault)
    return " / ".join(vault.table()) if vault.records() else "-"


def asked_about(vault, word, first, way=None):
    """What a Vault tells at a command of several words."""
    if word == "readers":
        return spaced([names_text(readers) for readers in vault[first]])
    if word == "leads":
        return spaced([lead_text(lead) for lead in vault.leads(first)])
    if word == "newest":
        newest = vault.newest(first)
        return "-" if newest is None else thing_text(newest)
    if word == "box":
        boxes = vault.boxes()
        return box_text(boxes[first]) if first < len(boxes) else "-"
    keys, texts = vault.had(first, way)
    written = ",".join([thing_text(text) for text in texts]) if texts else "-"
    return f"{keys_text(keys)} {written}"


def answer_text(answer):
    """The answer to a step as a string."""
    return "ok" if answer is None else thing_text(answer)


def spaced(words):
    """Words with single spaces between them, or - if there are none."""
    return " ".join(words) if words else "-"


def read_command(text):
    """The pair of the word of a command ("step" for a row of a step) and of what it is given."""
    try:
        return command_of(text)
    except InvalidText:
        raise InvalidCommand(text) from None


def command_of(text):
    """The command that a string is, or InvalidText."""
    words = text.split(" ")
    word = words[0]
    rest = text[len(word) + 1:]
    if is_step_word(word):
        return ("step", (read_step(text),))
    if word == "bars":
        return (word, (read_step(rest),))
    if word == "try":
        return (word, read_log(rest.split(" / ")))
    if word == "turnfor":
        return (word, tuple([read_goal(words, k, 0) for k in range(1, max(len(words), 2), 3)]))
    if word not in ASKED:
        raise InvalidText(0, 0)
    kinds = ASKED[word]
    parts = [value_at(words, k + 1, kinds[k]) for k in range(len(kinds))]
    check_end(words, len(kinds) + 1, 0, 0)
    return (word, tuple(parts))


def value_at(words, k, kind):
    """What word k writes, which has to be of this kind."""
    if kind == "name":
        return word_at(words, k, name_of, 0, 0)
    if kind == "number":
        return word_at(words, k, number_of, 0, 0)
    if kind == "group":
        return word_at(words, k, group_of, 0, 0)
    return word_at(words, k, having_of, 0, 0)


def group_of(word):
    """The names of a group that a word writes, perhaps none."""
    return () if word == "-" else names_of(word)


def having_of(word):
    """The word of a way to have things."""
    return word if word in ("now", "remembered", "copied", "logged") else None
