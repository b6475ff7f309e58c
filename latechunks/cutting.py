"""The sizes that rules cut, one behind the other."""

from latechunks.chunks import check_many


def sizes_by(rule, total, ahead):
    """The list of the sizes that a rule cuts of so many items, behind so many chunks of a list."""
    return sizes_in_rows(rule, total, ahead) if rule.parts else sizes_one_by_one(rule, total, ahead)


def sizes_one_by_one(rule, total, ahead):
    """The sizes of a rule of a function: nothing is known of it but what it tells."""
    sizes = []
    left = total
    while left > 0:
        check_many(ahead + len(sizes) + 1)
        sizes.append(rule(left))
        left = left - sizes[-1]
    return sizes


def sizes_in_rows(rule, total, ahead):
    """The sizes of a rule that is made of sizes and quotients: a lesser rest never has a greater chunk."""
    sizes = []
    left = total
    size = rule(left) if left > 0 else None
    while left > 0:
        # No chunk from here on is greater, so at least so many are needed.
        check_many(ahead + len(sizes) - left // -size)
        sizes.append(size)
        left = left - size
        following = rule(left) if left > 0 else None
        if following == size:
            many = count_in_row(rule, left, size)
            sizes.extend([size] * many)
            left = left - size * many
            following = rule(left) if left > 0 else None
        size = following
    return sizes


def count_by(rule, total):
    """How many chunks a rule, without a function within it, cuts of so many items."""
    count = 0
    left = total
    while left > 0:
        size = rule(left)
        many = count_in_row(rule, left, size)
        count = count + many
        left = left - size * many
    return count


def count_in_row(rule, left, size):
    """How many chunks of this size are cut in a row from a rest on, which has it."""
    many = 1
    step = 1
    while is_cut(rule, left - size * (many + step - 1), size):
        many = many + step
        step = step * 2
    while step > 1:
        step = step // 2
        if is_cut(rule, left - size * (many + step - 1), size):
            many = many + step
    return many


def is_cut(rule, rest, size):
    """Whether a chunk of this size is cut of a rest, which can be nothing, or less."""
    return rest >= size and rule(rest) == size
