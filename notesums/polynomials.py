"""Sums of products with INTEGERS as weights: dicts from products (sorted tuples of keys) to integers."""


def in_order(products):
    """The sorted list of products: by degree, then as tuples."""
    return sorted(products, key=lambda product: (len(product), product))


def products_of(keys, degree):
    """All products of a degree over sorted keys, in their order."""
    found = [()]
    for _ in range(degree):
        found = [(*product, key) for product in found for key in keys if not product or product[-1] <= key]
    return found


def multiplied(one, other):
    """Two sums of products, multiplied out."""
    found = {}
    for left in one:
        for right in other:
            both = tuple(sorted([*left, *right]))
            found[both] = found.get(both, 0) + one[left] * other[right]
    return found


def worth(product, numbers):
    """The product of the numbers of the keys; a key that the dict lacks has 0."""
    found = 1
    for key in product:
        found = found * numbers.get(key, 0)
    return found


def powers_of(number, most):
    """The list of the powers of a number, up to an exponent."""
    found = [1]
    for _ in range(most):
        found.append(found[-1] * number)
    return found


def expanded(tops, places, scale):
    """What a sum of products is with a sum of products in the place of each key, multiplied out.

    All places are scale times what is meant, and the result is scale times as often as its degree says.
    """
    most = max([len(product) for product in tops], default=0)
    powers = powers_of(scale, most)
    # Products that begin alike are multiplied out once.
    known = {(): {(): 1}}
    found = {}
    for product in tops:
        for length in range(len(product)):
            begin, longer = product[:length], product[:length + 1]
            if longer not in known:
                known[longer] = multiplied(known[begin], places[product[length]])
        many = tops[product] * powers[most - len(product)]
        for other, number in known[product].items():
            found[other] = found.get(other, 0) + many * number
    return found
