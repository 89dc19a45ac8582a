"""All that is led to from somewhere, in whatever number of steps."""


def all_behind(start, follows_of):
    """A list of the start and of all behind it; `follows_of` tells a list of what comes next behind something."""
    row = [start]
    found = {start: True}
    step = 0
    while step < len(row):
        follows = follows_of(row[step])
        for behind in follows:
            if behind not in found:
                found[behind] = True
                row.append(behind)
        step += 1
    return row
