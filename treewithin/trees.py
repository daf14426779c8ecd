"""Trees, their nodes and texts; great trees and small ones.

All walks keep a list of what waits instead of calling themselves, so that no
tree is too deep for them.
"""

from treewithin.kinds import is_row

LETTERS = "abcdefghijklmnopqrstuvwxyz"
LONGEST_WORD = 8


def is_word(thing):
    """Whether it is a text of one to eight small letters."""
    if not isinstance(thing, str) or not 1 <= len(thing) <= LONGEST_WORD:
        return False
    return all([sign in LETTERS for sign in thing])


def is_grown(thing, is_leaf, often):
    """Whether it is a tree of such leaves, each there once unless they may be there often."""
    seen = {}
    waiting = [thing]
    while waiting:
        part = waiting.pop()
        if is_row(part, 2):
            waiting.extend(part)
        elif not is_leaf(part) or (part in seen and not often):
            return False
        else:
            seen[part] = True
    return True


def is_tree(thing):
    """Whether it is a tree; of anything."""
    return is_grown(thing, is_word, True)


def is_great(thing):
    """Whether it is a tree whose leaves are unlike; of anything."""
    return is_grown(thing, is_word, False)


def is_small(great, thing):
    """Whether it is a tree whose leaves are leaves of the great tree; of anything."""
    if not is_great(great):
        return False
    words = leaves(great)
    return is_grown(thing, lambda part: is_word(part) and part in words, True)


def parts_of(tree):
    """The trees within a tree, itself too, as its nodes are numbered."""
    backward = []
    waiting = [tree]
    while waiting:
        part = waiting.pop()
        backward.append(part)
        if not isinstance(part, str):
            waiting.extend(part)
    return list(reversed(backward))


def nodes(tree):
    """For each node the word of a leaf, else the numbers of the one and the other."""
    told = []
    # The numbers of those nodes of which the node ahead hasn't come yet.
    loose = []
    for part in parts_of(tree):
        if isinstance(part, str):
            told.append(part)
        else:
            other = loose.pop()
            one = loose.pop()
            told.append((one, other))
        loose.append(len(told) - 1)
    return tuple(told)


def halves(node):
    """The numbers of the one and the other of a node as nodes tells it, none of a leaf."""
    return () if isinstance(node, str) else node


def leaves(tree):
    """The words of the leaves, as they are numbered."""
    return tuple([part for part in parts_of(tree) if isinstance(part, str)])


def ahead_of(tree):
    """For each node the number of the node ahead of it, None of the last one."""
    told = nodes(tree)
    ahead = [None for node in told]
    for number, node in enumerate(told):
        for half in halves(node):
            ahead[half] = number
    return tuple(ahead)


def bracketed(one, other):
    """The text of a pair of trees, of their texts."""
    return f"({one},{other})"


def text_of(tree):
    """The tree as it is written."""
    texts = []
    for node in nodes(tree):
        if isinstance(node, str):
            texts.append(node)
        else:
            texts.append(bracketed(texts[node[0]], texts[node[1]]))
    return texts[-1]


def paired(one, other):
    """Of two pairs (text, plain tree) that of both together, the lesser text first."""
    if other[0] < one[0]:
        return paired(other, one)
    return (bracketed(one[0], other[0]), (one[1], other[1]))


def plain(tree):
    """The tree with the lesser text first at each node."""
    # Texts are kept beside the trees, for they would be made anew at each node.
    done = []
    for node in nodes(tree):
        if isinstance(node, str):
            done.append((node, node))
        else:
            done.append(paired(done[node[0]], done[node[1]]))
    return done[-1][1]


def alike(one, other):
    """Whether both are trees, and the same plain; of anything."""
    return is_tree(one) and is_tree(other) and plain(one) == plain(other)
