"""Sayings and runs as texts."""

from ownfears.sayingforms import is_saying_by_form
from ownfears.usable import need


def saying_text(saying):
    """The line of a saying, of no setting."""
    need(is_saying_by_form(saying), "saying")
    return " ".join(saying)


def run_text(run):
    """The lines of the sayings of a run, of no setting; - for none."""
    need(isinstance(run, tuple) and all([is_saying_by_form(saying) for saying in run]), "run")
    return "\n".join([" ".join(saying) for saying in run]) if run else "-"
