"""Trees, read from texts and written: a tree is a word (a tuple) or a list of trees."""

from lawclasses.words import BLANK, CLOSING, OPENING, is_blank, is_word_byte

MOST_BYTES = 3000
MOST_NESTED = 40


# Puts the word that has just ended, if there is one, behind the other trees.
def end_word(trees, word):
    if len(word) > 0:
        trees.append(tuple(word))


# Gives None if the text isn't readable.
def read_trees(text):
    if len(text) > MOST_BYTES:
        return None
    # The lists that are still open, the innermost last; the first is the text itself.
    pending = [[]]
    word = []
    for byte in text:
        if is_word_byte(byte):
            word.append(byte)
            continue
        end_word(pending[-1], word)
        word = []
        if byte == OPENING and len(pending) <= MOST_NESTED:
            pending.append([])
        elif byte == CLOSING and len(pending) > 1:
            closed = pending.pop()
            pending[-1].append(closed)
        elif not is_blank(byte):
            return None
    end_word(pending[-1], word)
    return pending[0] if len(pending) == 1 else None


# Gives None if the text isn't readable or isn't one tree.
def read_one_tree(text):
    trees = read_trees(text)
    if trees is None or len(trees) != 1:
        return None
    return trees[0]


# A recursion: no tree that is written is nested deeper than an instance is.
def written(tree):
    if isinstance(tree, tuple):
        return list(tree)
    text = [OPENING]
    for place, part in enumerate(tree):
        if place > 0:
            text.append(BLANK)
        text.extend(written(part))
    text.append(CLOSING)
    return text
