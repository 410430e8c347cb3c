"""Copies of one unknown text, which were made from each other by chains."""

from lineends.checks import check_chain
from lineends.composing import NOTHING, form_of_both, form_of_chain
from lineends.errors import UnknownName
from lineends.remainders import remainder


class Depot:
    """Copies of one unknown text, each with a name."""

    def __init__(self, name):
        # What the original became is all that can be known of a copy.
        self._forms = {name: NOTHING}

    def copy(self, source, name, chain):
        """Add a copy that is made from another one by a chain, or replace the copy with this name."""
        before = self.form_of(source)
        check_chain(chain)
        self._forms[name] = form_of_both(before, form_of_chain(chain))

    def form_of(self, name):
        """Return the form of a copy, from the original."""
        if name not in self._forms:
            raise UnknownName(name)
        return self._forms[name]

    def way(self, source, name):
        """Return the first shortest chain in string order from one copy to another one, or None."""
        return remainder(self.form_of(source), self.form_of(name))

    def are_same(self, first, second):
        """Return True if two copies are equal, whatever the original is, otherwise False."""
        return self.form_of(first) == self.form_of(second)

    @property
    def names(self):
        """The ascending list of all names."""
        return sorted(self._forms)

    def groups(self):
        """Yield ascending lists of the names of equal copies, by their first names."""
        by_form = {}
        for name in sorted(self._forms):
            by_form.setdefault(self._forms[name], []).append(name)
        for alike in by_form.values():
            yield alike
