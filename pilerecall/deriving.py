"""Derivations: how many replacements it takes to derive the parts of a text."""

from heapq import heappop, heappush


def known_sum(numbers):
    """The sum of numbers, or None if one of them is None."""
    return None if None in numbers else sum(numbers)


def empty_sizes(grammar):
    """The least number of replacements that derive the empty text from each name, where there is one."""
    sizes = {}
    changed = True
    while changed:
        changed = False
        for name, body in grammar:
            size = known_sum([1] + [sizes.get(mark) for mark in body])
            if size is not None and (name not in sizes or size < sizes[name]):
                sizes[name] = size
                changed = True
    return sizes


class Derivations:
    """The least numbers of replacements that derive each part of a text from each word.

    The words are the characters of the bodies and what stands behind them, so that each word of
    several characters consists of its first character and another word. parts has, for a word
    and a place, the ends of the parts that begin there and are not empty, each with its number.
    """

    def __init__(self, grammar, text):
        self.text = text
        self.empties = empty_sizes(grammar)
        self.words = words_of(grammar)
        self.wholes = self.words_with_wholes(grammar)
        self.parts = {(word, place): {} for word in self.words for place in range(len(text))}
        for size in range(1, len(text) + 1):
            for begin in range(len(text) + 1 - size):
                self.fill(begin, begin + size)

    def empty_size(self, word):
        """The number for a word and the empty text, or None."""
        return known_sum([self.empties.get(mark) for mark in word])

    def words_with_wholes(self, grammar):
        """For each word the words that derive all that it derives, as pairs (word, more replacements)."""
        wholes = {word: [] for word in self.words}
        for name, body in grammar:
            if body:
                wholes[body].append((name, 1))
        for word in self.words:
            if len(word) > 1:
                self.add_whole(wholes, word[0], word, word[1:])
                self.add_whole(wholes, word[1:], word, word[0])
        return wholes

    def add_whole(self, wholes, part, word, rest):
        """Notes that a word derives what its part derives, if the rest of it derives the empty text."""
        more = self.empty_size(rest)
        if more is not None:
            wholes[part].append((word, more))

    def fill(self, begin, end):
        """Finds the numbers for one part of the text, the lesser ones before the greater ones."""
        queue = []
        for word in self.words:
            size = self.split_size(word, begin, end)
            if size is not None:
                heappush(queue, (size, word))
        while queue:
            size, word = heappop(queue)
            found = self.parts[(word, begin)]
            if end not in found:
                found[end] = size
                for whole, more in self.wholes[word]:
                    heappush(queue, (size + more, whole))

    def split_size(self, word, begin, end):
        """The number for a letter, or for a word of which no character derives all of the part alone."""
        if len(word) == 1:
            return 0 if self.text[begin:end] == word else None
        sizes = []
        firsts = self.parts[(word[0], begin)]
        for middle in firsts:
            behind = self.parts[(word[1:], middle)]
            if end in behind:
                sizes.append(firsts[middle] + behind[end])
        return min(sizes, default=None)

    def size_of(self, name):
        """The number for a name and the whole text, or None."""
        if self.text == "":
            return self.empties.get(name)
        return self.parts[(name, 0)].get(len(self.text))


def words_of(grammar):
    """All words: names, the characters of bodies, and what stands behind or at each of these."""
    found = {name: True for name, _ in grammar}
    for _, body in grammar:
        for index in range(len(body)):
            found[body[index]] = True
            found[body[index:]] = True
    return list(found)
