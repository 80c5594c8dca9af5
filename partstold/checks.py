"""Checks of the states that are passed."""

from partstold.errors import BadState


def is_one_of(thing, states):
    """Tells whether any object is one of some states."""
    # Other objects may be equal to a string, or have no hash.
    return isinstance(thing, str) and thing in states


def check_states(states, things):
    """Raises BadState for the first thing that is not one of the states."""
    for thing in things:
        if not is_one_of(thing, states):
            raise BadState(thing)
