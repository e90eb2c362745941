"""Names, partitions of names, and cells (points 4 to 6)."""

from onelooker.errors import BadCell, BadName

MOST_NAMES = 3
ENDLESS = 3


def is_int(value):
    """True if the value is an integer and no truth value."""
    return isinstance(value, int) and not isinstance(value, bool)


def is_ascending(items):
    """True if each item of a list or tuple is less than the next one."""
    return all([low < high for low, high in zip(items, items[1:])])


def is_name(value):
    """True if the value is a letter from a to z, followed by zero to three digits."""
    if not isinstance(value, str) or not 1 <= len(value) <= 4:
        return False
    # The signs are compared, because isalpha and isdigit accept signs of other alphabets too.
    return "a" <= value[0] <= "z" and all(["0" <= sign <= "9" for sign in value[1:]])


def check_names(names):
    """Raises BadName unless the value is a tuple of names as a problem has it."""
    if not isinstance(names, tuple):
        raise BadName(names)
    for name in names:
        if not is_name(name):
            raise BadName(name)
    if len(names) > MOST_NAMES or not is_ascending(names):
        raise BadName(names)


def pairs(names):
    """The pairs (a, b) of the names with a before b, ascending."""
    return [(name, later) for at, name in enumerate(names) for later in names[at + 1:]]


def marked(keys):
    """The marks of a list or tuple of keys: equal keys get equal marks."""
    different = list({key: True for key in keys})
    numbers = {key: number for number, key in enumerate(different)}
    return tuple([numbers[key] for key in keys])


def block_count(marks):
    """The number of blocks of a partition."""
    return max(marks, default=-1) + 1


def partitions(count):
    """The marks of all partitions of so many names, ascending."""
    rows = [()]
    for _ in range(count):
        rows = [(*marks, mark) for marks in rows for mark in range(block_count(marks) + 1)]
    return rows


def meet(first, second):
    """The marks of the partition that puts together what both partitions put together."""
    return marked(list(zip(first, second)))


def cells_over(count):
    """All cells over so many names, ascending."""
    every = partitions(count)
    return [(size, marks) for size in range(1, ENDLESS + 1) for marks in every if block_count(marks) <= size]


def is_partition(value, count):
    """True if the value is the marks of a partition of so many names."""
    if not isinstance(value, tuple) or len(value) != count:
        return False
    return all([is_int(mark) for mark in value]) and marked(value) == value


def is_cell(value, count):
    """True if the value is a cell over so many names."""
    if not isinstance(value, tuple) or len(value) != 2:
        return False
    size, marks = value
    if not is_int(size) or not 1 <= size <= ENDLESS:
        return False
    return is_partition(marks, count) and block_count(marks) <= size


def check_cell(cell, count):
    """Raises BadCell unless the value is a cell over so many names."""
    if not is_cell(cell, count):
        raise BadCell(cell)


def renamed_marks(names, marks, mapping):
    """The marks of the renamed names in their ascending order."""
    renamed = sorted([(mapping.get(name, name), mark) for name, mark in zip(names, marks)])
    return marked([mark for _, mark in renamed])
