"""What ends show, ends that are alike, and least forms."""

from strongbit.ends import End
from strongbit.machines import is_number

STARTS = ("right", "wrong", "sender")


def beginning(end, start):
    """The machine of a start and the index of its row."""
    if start == "sender":
        return end.sender, 0
    if start == "wrong":
        return end.hearer, 1
    return end.hearer, 0


def seen_at(rows, place):
    """What is shown at a row or a word of a machine."""
    if is_number(place):
        return "put", rows[place][0]
    return "word", place


def shown(end, start, bits):
    """What an end shows from a start behind some heard bits."""
    rows, place = beginning(end, start)
    for bit in bits:
        if not is_number(place):
            break
        place = rows[place][1 + bit]
    return seen_at(rows, place)


def parting_bits(one, other, start):
    """The fewest, then least bits behind which two ends show different things from a start, or None."""
    rows, begin = beginning(one, start)
    other_rows, other_begin = beginning(other, start)
    # Pairs are met by the number of their bits and then by these bits in order,
    # so the first bits that lead to a pair are the ones that are asked for.
    bits_to = {(begin, other_begin): ()}
    pairs = [(begin, other_begin)]
    at = 0
    while at < len(pairs):
        place, other_place = pairs[at]
        bits = bits_to[pairs[at]]
        if seen_at(rows, place) != seen_at(other_rows, other_place):
            return bits
        # Both show the same here, so both are rows or both are words.
        if is_number(place):
            for bit in (0, 1):
                pair = (rows[place][1 + bit], other_rows[other_place][1 + bit])
                if pair not in bits_to:
                    bits_to[pair] = (*bits, bit)
                    pairs.append(pair)
        at += 1
    return None


def parting(one, other):
    """None if two ends are alike, otherwise the first (start, bits) at which they differ."""
    found = None
    for start in STARTS:
        bits = parting_bits(one, other, start)
        if bits is None:
            continue
        if found is None or len(bits) < len(found[1]):
            found = (start, bits)
    return found


def numbers_of(keys):
    """A number for each key; equal keys have the same one."""
    numbers = {}
    for key in keys:
        numbers.setdefault(key, len(numbers))
    return [numbers[key] for key in keys]


def sort_of(place, sorts):
    """The sort of a row; a word stands for itself."""
    return sorts[place] if is_number(place) else place


def sorts_of(rows):
    """A number for each row; two rows have the same one exactly if they are alike."""
    sorts = numbers_of([row[0] for row in rows])
    while True:
        # A finer list never joins what was parted, so equally many sorts are the same ones.
        finer = numbers_of([(sorts[index], sort_of(row[1], sorts), sort_of(row[2], sorts))
                            for index, row in enumerate(rows)])
        if max(finer) == max(sorts):
            return sorts
        sorts = finer


def kept_rows(rows, sorts, fixed):
    """The old indexes of the rows of the least form, by their new indexes; the first ones are fixed."""
    kept = list(range(fixed))
    met = {sorts[index]: True for index in kept}
    at = 0
    while at < len(kept):
        row = rows[kept[at]]
        for place in row[1:]:
            if is_number(place) and sorts[place] not in met:
                met[sorts[place]] = True
                kept.append(place)
        at += 1
    return kept


def renamed(place, sorts, new_indexes):
    """The new index of a row; a word stays as it is."""
    return new_indexes[sorts[place]] if is_number(place) else place


def least_machine(rows, fixed):
    """The rows of a machine in least form; so many rows at its beginning keep their indexes."""
    sorts = sorts_of(rows)
    kept = kept_rows(rows, sorts, fixed)
    new_indexes = {}
    for new, old in enumerate(kept):
        # The lesser index stays, so that row 0 follows where row 1 is alike to it.
        new_indexes.setdefault(sorts[old], new)
    least_rows = []
    for old in kept:
        put, on_strong, on_weak = rows[old]
        least_rows.append((put, renamed(on_strong, sorts, new_indexes), renamed(on_weak, sorts, new_indexes)))
    return least_rows


def least(end):
    """The least form of an end."""
    return End(least_machine(end.hearer, 2), least_machine(end.sender, 1))
