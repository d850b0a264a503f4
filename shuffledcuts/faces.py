"""Rows of sets: faces, their product, and the walks over listings that they lead."""

from itertools import permutations
from math import factorial

from shuffledcuts.compositions import all_compositions
from shuffledcuts.errors import NotFit
from shuffledcuts.partings import lots_parted, partings_of
from shuffledcuts.sums import gathered, multiplied


def faces_of_sizes(composition):
    """Return all faces whose lots have these sizes in sequence, ascending."""
    rows = [((), tuple(range(sum(composition))))]
    for size in composition:
        rows = [(face + (lot,), rest) for face, left in rows for lot, rest in lots_parted(left) if len(lot) == size]
    return sorted([face for face, _ in rows])


def all_faces(n):
    """Return all faces of n, ascending."""
    return tuple(sorted([face for composition in all_compositions(n) for face in faces_of_sizes(composition)]))


def face_lot(composition):
    """Return the sum of all faces whose lots have these sizes in sequence."""
    return tuple([(face, 1) for face in faces_of_sizes(composition)])


def shared_lots(f, g):
    """Return the one face whose lots are what the lots of f share with those of g."""
    lots = [tuple([x for x in lot if x in other]) for lot in f for other in g]
    return [tuple([lot for lot in lots if lot])]


def face_product(one, other):
    """Return the product of sums over faces of one n, or raise NotFit."""
    if len({sum([len(lot) for lot in face]) for face, _ in (*one, *other)}) > 1:
        raise NotFit("faces of unlike numbers")
    return multiplied(one, other, shared_lots)


def walked(face, listing):
    """Return the listing of the product of a face and a listing as a face of lots of one."""
    return tuple([x for lot in face for x in listing if x in lot])


def walk_table(n, one):
    """Return the table of the numbers of the faces that lead from one listing of n to another one."""
    listings = list(permutations(range(n)))
    table = []
    for listing in listings:
        numbers = dict(gathered([(walked(face, listing), k) for face, k in one]))
        table.append(tuple([numbers.get(other, 0) for other in listings]))
    return tuple(table)


def is_made_up(face, parting):
    """Tell whether each lot of a face is made up of lots of a parting."""
    return all([any([all([x in lot for x in part]) for lot in face]) for part in parting])


def ways_round(parting):
    """Return the product of the factorials of the sizes less 1 of the lots of a parting."""
    ways = 1
    for part in parting:
        ways *= factorial(len(part) - 1)
    return ways


def walk_numbers(n, one):
    """Return (parting, number of the faces that are made up of its lots, times) for all partings, ascending."""
    return tuple([(parting, sum([k for face, k in one if is_made_up(face, parting)]), ways_round(parting))
                  for parting in partings_of(n)])
