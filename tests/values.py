"""Values of any kind, for what is to be refused."""

ANY_VALUES = [
    None, True, False, 0, 1, -1, 7, 10 ** 30, "", " ", "a", "b", "c", "d", "A", "ab", "ac", "bc", "abc", "ba", "aa",
    "acb", "bac", "bca", "cab", "cba", "aab", "abca", "cc", "a b", "a ", " abc", "ABC", "plane", "Plane", "plane ",
    "0", "1", "+", "&", "-", "01", "++", "a+b", "\n", "a\n", [], ["a"], ["a", "b", "c"], [1, [None, {}]], (), ("a",),
    ("a", "b", "c"), (1, (True, ())), ("plane",), {}, {"a": 1}, {None: ["a"]}, {("a", 1): True},
]


def is_like(one, other):
    """Whether two values are equal and of one kind, inner ones too (True is not 1)."""
    if type(one) is not type(other):
        return False
    if isinstance(one, (list, tuple)):
        return len(one) == len(other) and all(is_like(x, y) for x, y in zip(one, other))
    if isinstance(one, dict):
        return is_like(list(one.items()), list(other.items()))
    return one == other


def is_one_of(value, values):
    return any(is_like(value, told) for told in values)
