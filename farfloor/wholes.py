"""Whole numbers: common parts, rests that meet, rows of bits."""


def shared(one, other):
    one = abs(one)
    other = abs(other)
    while other != 0:
        rest = one % other
        one = other
        other = rest
    return one


def weights(one, other):
    # In each triple the first number is the second times `one` and the third times `other`.
    near = (one, 1, 0)
    far = (other, 0, 1)
    while far[0] != 0:
        times = near[0] // far[0]
        rest = (near[0] - times * far[0], near[1] - times * far[1], near[2] - times * far[2])
        near = far
        far = rest
    if near[0] < 0:
        return (-near[0], -near[1], -near[2])
    return near


def meeting(one, first, other, second):
    found = weights(one, other)
    part = found[0]
    gap = second - first
    if gap % part != 0:
        return None
    # Taken `times` times, `one` leads from `first` to the rest of `second` over `other`.
    times = gap // part * found[1]
    return (first + one * times) % (one // part * other)


def lowest(bits, width):
    # A mask of the whole width would be great even where the bits are few.
    return bits - ((bits >> width) << width)


def turned(bits, by, width):
    up = by % width
    stay = width - up
    past = lowest(bits, width) >> stay
    return (lowest(bits, stay) << up) | past
