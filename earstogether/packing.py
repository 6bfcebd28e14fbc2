"""Lists of whole numbers as one great number each, and their products.

The numbers of a list stand in the great number side by side, each in so many
bits: then one multiplication of great numbers, which Python does fast, is a
whole product of two lists.
"""

# Below so many single products for each number of the outcome they are
# faster than packing.
FEW = 12


def packed(numbers, bits):
    """The sum of all numbers[k], each times 2 to the power of bits times k."""
    parts = list(numbers)
    while len(parts) > 1:
        if len(parts) % 2 == 1:
            parts.append(0)
        parts = [parts[k] + (parts[k + 1] << bits) for k in range(0, len(parts), 2)]
        bits = bits * 2
    return parts[0]


def unpacked(value, bits, many):
    """So many numbers that are packed as value, none of more than bits - 1 bits."""
    half = 1 << (bits - 1)
    widths = [bits]
    while widths[-1] < bits * many:
        widths.append(widths[-1] * 2)
    # Lifted by half a range each, none of the numbers is below 0 and takes from the next one.
    parts = [value + packed([half] * many, bits)]
    for width in reversed(widths):
        mask = (1 << width) - 1
        parts = [piece for part in parts for piece in (part & mask, part >> width)]
    return [part - half for part in parts[:many]]


def greatest(numbers):
    return max([abs(number) for number in numbers])


def product_of(one, other):
    """The list whose number k is the sum of all one[i] * other[k - i]; none of both is empty."""
    ones = [(k, number) for k, number in enumerate(one) if number != 0]
    others = [(k, number) for k, number in enumerate(other) if number != 0]
    many = len(one) + len(other) - 1
    if len(ones) * len(others) <= FEW * many:
        return product_singly(ones, others, many)
    bits = (greatest(one) * greatest(other) * min(len(ones), len(others))).bit_length() + 1
    return unpacked(packed(one, bits) * packed(other, bits), bits, many)


def product_singly(ones, others, many):
    out = [0] * many
    for at, number in ones:
        for place, by in others:
            out[at + place] += number * by
    return out
