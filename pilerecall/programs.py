"""Programs: trees of procedures that have been judged."""

from pilerecall.errors import BadTree, DoubleName, NoSuchProcedure
from pilerecall.trees import as_tuples, names_called, tree_fault


def check_names(procedures):
    """Raises an error for the first name that stands twice, and then for the first that is lacking."""
    known = {}
    for name, _ in procedures:
        if name in known:
            raise DoubleName(name)
        known[name] = True
    for _, block in procedures:
        for name in names_called(block):
            if name not in known:
                raise NoSuchProcedure(name)


class Program:
    """A program of the language, as a tree of tuples."""

    def __init__(self, procedures):
        index = tree_fault(procedures)
        if index is not None:
            raise BadTree(index)
        self.procedures = as_tuples(procedures)
        check_names(self.procedures)

    def __eq__(self, other):
        return isinstance(other, Program) and self.procedures == other.procedures
