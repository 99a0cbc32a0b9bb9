"""Rows of writings that put some changes on the plank (point 10)."""


def row_for(hold, numbers):
    row = []
    taken = {}
    left = hold.closure(numbers)
    while left:
        # All that the oldest one needs is out or taken as out, so this writing would put it out.
        block = hold.block_of(left[0])
        row.append(block)
        for number in hold.outcome(block, taken)[0]:
            taken[number] = True
        left = [number for number in left if number not in taken]
    return row
