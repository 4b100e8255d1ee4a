"""Words as plain trees: a sign alone, or a tuple of a sign and two trees; nothing of the package's own is used."""

import ast
import re

LEAVES = "abc01"
SIGNS = {ast.BitOr: "+", ast.BitAnd: "&"}


def drawn_tree(random, many, leaves=LEAVES):
    """A drawn tree of so many leaves."""
    if many == 1:
        return random.choice(leaves)
    first = random.randrange(1, many)
    return random.choice("+&"), drawn_tree(random, first, leaves), drawn_tree(random, many - first, leaves)


def all_trees(many, leaves):
    """All trees of so many leaves."""
    if many == 1:
        return list(leaves)
    return [
        (sign, one, other)
        for first in range(1, many) for one in all_trees(first, leaves)
        for other in all_trees(many - first, leaves) for sign in "+&"
    ]


def tree_of(word):
    """The tree of an object with a sign and parts."""
    return (word.sign, *[tree_of(part) for part in word.parts]) if word.parts else word.sign


def full_text(tree):
    """A text with parentheses around everything that has parts."""
    if isinstance(tree, str):
        return tree
    sign, one, other = tree
    return f"({full_text(one)}{sign}{full_text(other)})"


def tree_of_node(node):
    """The tree of a node of Python's own parser; None for what is no word."""
    if isinstance(node, ast.Name) and node.id in "abc":
        return node.id
    if isinstance(node, ast.Constant) and type(node.value) is int and node.value in (0, 1):
        return str(node.value)
    if isinstance(node, ast.BinOp) and type(node.op) in SIGNS:
        parts = tree_of_node(node.left), tree_of_node(node.right)
        return None if None in parts else (SIGNS[type(node.op)], *parts)
    return None


def deepest(text):
    """The greatest number of parentheses that are open at any place."""
    opened = [text[:at].count("(") - text[:at].count(")") for at in range(len(text) + 1)]
    return max(opened)


def parsed(text, most=9):
    """The tree of a text, by Python's own parser, where | and & bind as + and & do here; None if it is no text."""
    if not set(text) <= set("abc01+&() ") or re.search("[abc01][abc01]", text) or deepest(text) > most:
        return None
    try:
        return tree_of_node(ast.parse(text.strip(" ").replace("+", "|"), mode="eval").body)
    except SyntaxError:
        return None


TAILS = [letter + ")" * many for many in range(10) for letter in ("", "a")]


def wrong_column(text):
    """Where a string can no longer be continued to a text, counted from 1; None if it is one."""
    for column in range(1, len(text) + 1):
        if all(parsed(text[:column] + tail) is None for tail in TAILS):
            return column
    return len(text) + 1 if parsed(text) is None else None


def swapped_tree(tree, table):
    """The tree with other signs."""
    if isinstance(tree, str):
        return table.get(tree, tree)
    sign, one, other = tree
    return table.get(sign, sign), swapped_tree(one, table), swapped_tree(other, table)


def is_own_text(text):
    """Whether a string is the text that a word has: no space or parenthesis is missing or needless."""
    tree = parsed(text, 80)
    if tree is None or re.sub(" ?([+&]) ?", r" \1 ", text.replace(" ", "")) != text:
        return False
    opened = []
    for at, sign in enumerate(text):
        if sign == "(":
            opened.append(at)
        elif sign == ")":
            start = opened.pop()
            if parsed(text[:start] + text[start + 1:at] + text[at + 1:], 80) == tree:
                return False
    return True
