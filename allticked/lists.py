"""Lists that keep unlike things apart, as few as can be."""


def least_numbers(unlike):
    """Tell for each of some things the number of its list, by the places of those that it is unlike to.

    The lists are as few as possible, and the numbers as small as then can be, the first ones first.
    """
    many = 0
    numbers = numbers_within(many, unlike)
    while numbers is None:
        many = many + 1
        numbers = numbers_within(many, unlike)
    return numbers


def numbers_within(many, unlike):
    """Tell the least numbers of lists if there are at most so many, or None."""
    numbers = []
    least = 0
    while len(numbers) < len(unlike):
        number = number_for(many, unlike[len(numbers)], numbers, least)
        if number is not None:
            numbers.append(number)
            least = 0
        elif numbers:
            # Nothing fits behind these, so the last one has to be larger.
            least = numbers.pop() + 1
        else:
            return None
    return numbers


def number_for(many, unlike, numbers, least):
    """Tell the least number, from some number on, of a list that the next thing can be in, or None."""
    taken = [number for at, number in enumerate(numbers) if at in unlike]
    # A list that is not begun is like each other such list, so just the first of them is tried.
    for number in range(least, min(many, max(numbers, default=-1) + 2)):
        if number not in taken:
            return number
    return None
