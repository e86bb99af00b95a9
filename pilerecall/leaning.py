"""Which surfaces the row of a surface leans on, and all that it leans on in the end."""

from pilerecall.courses import fallen_entry
from pilerecall.surfaces import back_to, led_to


def leaned_on(book, surface):
    """The surfaces that a surface leans on; one of them may stand there twice."""
    act = book.act(surface)
    if act is None or act[2] == "pop":
        return []
    fallen = fallen_entry(book, surface, act)
    if fallen is None:
        return [led_to(surface, act)]
    return [led_to(surface, act), back_to(surface, fallen[0])]


def leaned_in_all(book, surfaces):
    """These surfaces, those that they lean on, those that these lean on, and so on, each once."""
    found = {surface: True for surface in surfaces}
    pending = list(found)
    while pending:
        surface = pending.pop()
        for leaned in leaned_on(book, surface):
            if leaned not in found:
                found[leaned] = True
                pending.append(leaned)
    return list(found)
