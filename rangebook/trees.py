"""The tree that a book is made of.

A row may be too long to keep a number for each place, so a tree keeps one number for a stretch
that holds it throughout. Trees are never changed, so that books may share their parts.
"""


class Tree:
    """A row of numbers.

    Without parts, the number `least` stands at each of the `many` places. With parts, the row is that
    of `left` and then that of `right`, with `more` added at each place; then neither part is empty.
    `total` and `least` speak of the row as it is, with `more` added.
    """

    def __init__(self, many, total, least, more, left, right):
        self.many = many
        self.total = total
        self.least = least
        self.more = more
        self.left = left
        self.right = right


def even_tree(many, number):
    """The tree of a row with the number at each of so many places."""
    return Tree(many, many * number, number, 0, None, None)


def joined(left, right, more):
    """The tree of two rows that are not empty, one after the other, with more added at each place."""
    many = left.many + right.many
    total = left.total + right.total + many * more
    return Tree(many, total, min(left.least, right.least) + more, more, left, right)


def tree_of(numbers):
    """The tree of a list of numbers."""
    if not numbers:
        return even_tree(0, 0)
    if len(numbers) == 1:
        return even_tree(1, numbers[0])
    # Halves keep the tree low: the functions below call themselves once for each level.
    half = len(numbers) // 2
    return joined(tree_of(numbers[:half]), tree_of(numbers[half:]), 0)


def raised(tree, by):
    """A new tree of the row, with by added at each place."""
    if tree.left is None:
        return even_tree(tree.many, tree.least + by)
    return joined(tree.left, tree.right, tree.more + by)


def halves(tree):
    """The two parts of a tree of more than one place."""
    if tree.left is not None:
        return tree.left, tree.right
    # Halves, not a cut where the stretch ends: however many deeds there are, the tree stays as low.
    half = tree.many // 2
    return even_tree(half, tree.least), even_tree(tree.many - half, tree.least)


def added_in(tree, low, high, by):
    """A new tree of the row, with by added at each place of a stretch that lies in it."""
    return changed(tree, low, high, lambda part, above: raised(part, by))


def filled_in(tree, low, high, number):
    """A new tree of the row, with the number at each place of a stretch that lies in it."""
    # What the levels above add comes on top of the number that a part keeps.
    return changed(tree, low, high, lambda part, above: even_tree(part.many, number - above))


def changed(tree, low, high, change):
    """A new tree of the row, with each part that the stretch covers changed."""
    # A deed gives another book, also where it changes nothing.
    if low == high:
        return raised(tree, 0)
    return changed_in(tree, low, high, 0, change)


# In the functions below, low and high may lie outside of the row: what is asked of a tree
# is handed to both of its parts, and each part answers for the places that it has.


def total_in(tree, low, high):
    """The sum of the numbers from low on, ahead of high."""
    low = max(low, 0)
    high = min(high, tree.many)
    if low >= high:
        return 0
    if high - low == tree.many:
        return tree.total
    if tree.left is None:
        return (high - low) * tree.least
    half = tree.left.many
    ahead = total_in(tree.left, low, high)
    behind = total_in(tree.right, low - half, high - half)
    return ahead + behind + (high - low) * tree.more


def least_in(tree, low, high):
    """The least number from low on, ahead of high; None for no place."""
    low = max(low, 0)
    high = min(high, tree.many)
    if low >= high:
        return None
    if tree.left is None or high - low == tree.many:
        return tree.least
    half = tree.left.many
    ahead = least_in(tree.left, low, high)
    behind = least_in(tree.right, low - half, high - half)
    return min([number for number in (ahead, behind) if number is not None]) + tree.more


def first_in(tree, low, bound):
    """The first place from low on whose number is no greater than the bound; None where there is none."""
    if low >= tree.many or tree.least > bound:
        return None
    if tree.left is None:
        return max(low, 0)
    at = first_in(tree.left, low, bound - tree.more)
    if at is not None:
        return at
    half = tree.left.many
    at = first_in(tree.right, low - half, bound - tree.more)
    return None if at is None else half + at


def numbers_in(tree, low, high, above=0):
    """A new list of the numbers from low on, ahead of high, each with above added."""
    low = max(low, 0)
    high = min(high, tree.many)
    if low >= high:
        return []
    if tree.left is None:
        return [tree.least + above] * (high - low)
    half = tree.left.many
    ahead = numbers_in(tree.left, low, high, above + tree.more)
    behind = numbers_in(tree.right, low - half, high - half, above + tree.more)
    return ahead + behind


def changed_in(tree, low, high, above, change):
    """The tree with change(part, above) for each part that lies from low on, ahead of high.

    There `above` is what the levels above the part add to it.
    """
    low = max(low, 0)
    high = min(high, tree.many)
    if low >= high:
        return tree
    if high - low == tree.many:
        return change(tree, above)
    left, right = halves(tree)
    half = left.many
    ahead = changed_in(left, low, high, above + tree.more, change)
    behind = changed_in(right, low - half, high - half, above + tree.more, change)
    return joined(ahead, behind, tree.more)
