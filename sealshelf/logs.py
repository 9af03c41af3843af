"""What logs of opened boxes tell, and what they do not ([45])."""

from sealshelf.groups import check_known
from sealshelf.havings import had, has
from sealshelf.lyings import holders_of


def unlogged(history, holder):
    """The pair of what the holder alone has remembered at the last moment, but has not logged."""
    check_known(holders_of(history), (holder,))
    keys, texts = had(history, (holder,), len(history), "remembered")
    logged_keys, logged_texts = had(history, (holder,), len(history), "logged")
    return (tuple([key for key in keys if key not in logged_keys]),
            tuple([text for text in texts if text not in logged_texts]))


def suspects(history, thing):
    """The holders who alone have remembered the thing at the last moment, and those who have logged it."""
    return (holders_having(history, thing, "remembered"), holders_having(history, thing, "logged"))


def holders_having(history, thing, word):
    """The ascending tuple of the holders who alone have the thing at the last moment in this way."""
    return tuple([name for name in holders_of(history) if has(history, (name,), len(history), thing, word)])
