"""Kinds of terms in a context."""

from changewise.asked import checked_context
from changewise.kinded import kind_in
from changewise.terms import check_term


def kind_of(context, term):
    """The kind of a term in a context."""
    kinds = checked_context(context)
    check_term(term)
    return kind_in(kinds, term)
