"""Logs, and the Vaults that they lead to."""

from sealshelf.kinds import is_tuple_of
from sealshelf.livesteps import is_step
from sealshelf.livevaults import Vault


def is_log(thing):
    """Whether any value is a tuple of steps by kind."""
    return is_tuple_of(is_step, thing)


def replayed(log):
    """A Vault after these steps; InvalidStep for the first one that is barred."""
    vault = Vault()
    vault.replay(log)
    return vault
