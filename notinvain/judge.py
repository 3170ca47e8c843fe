"""One judge: CLAIMS, whether they stand, PAPERS against them, and REASONS for them."""

from notinvain.always import is_verdict, lacks, least_form, verdict
from notinvain.blots import blot, blot_rows, is_whole
from notinvain.books import first_signs, is_book, is_plain, is_sides
from notinvain.cells import causes_in, cells_of, is_cell_name, is_done, is_house
from notinvain.ends import can_meet, common_end, is_end_of, made_end
from notinvain.errors import Unfit
from notinvain.follows import are_reasons, is_odd_form, odd_form, reasons
from notinvain.forms import has_name, is_form, is_sign, lies_in, sign_of
from notinvain.looks import is_stuck, is_tree, stuck_form, tree_of
from notinvain.lots import bars, is_lot, run_within
from notinvain.needs import marked
from notinvain.rows import does_part, parting
from notinvain.runs import is_ended, is_run, is_standing, led, tasks
from notinvain.trees import ascending, is_number, is_numbers, tupled
from notinvain.worlds import are_rounds, by_hands, is_world, least_lot, longest_chain, lot_ends, wanted

_HANDS = 60
# How many members a CLAIM has, by its word.
_SIZES = {"shown": 4, "apart": 4, "bars": 4, "always": 2, "alike": 4, "tree": 3, "follows": 3, "wants": 5, "rounds": 4}
_WITH_REASONS = ("shown", "bars", "always", "tree", "follows", "rounds")


def _is_unmarked(thing):
    """Whether thing is a FORM without the NAME "mark"."""
    return is_form(thing) and not has_name(thing, "mark")


def _are_cells(thing):
    """Whether thing is a set of cell names."""
    return isinstance(thing, tuple) and all([is_cell_name(cell) for cell in thing]) and thing == ascending(thing)


def _is_of_sides(word, sides, row):
    """Whether this is a CLAIM on what SIDES, maybe no BOOK, tell."""
    if not is_sides(sides):
        return False
    return is_sides(row[0]) if word == "follows" else all([_is_unmarked(form) for form in row])


def _is_of_forms(word, book, row):
    """Whether this is a CLAIM on what a BOOK tells of FORMS."""
    if word == "always":
        return True
    if word == "tree":
        return is_plain(book) and is_sign(row[0]) and row[0] in first_signs(book)
    if not _is_unmarked(row[0]):
        return False
    if word == "bars":
        return is_lot(row[1], tasks(book, row[0]))
    return _is_unmarked(row[1]) and is_standing(book, row[0]) and is_standing(book, row[1])


def is_claim(thing):
    """Whether thing is a CLAIM."""
    if not isinstance(thing, tuple) or not thing or not isinstance(thing[0], str):
        return False
    if thing[0] not in _SIZES or len(thing) != _SIZES[thing[0]]:
        return False
    word, book, row = thing[0], thing[1], thing[2:]
    if word in ("shown", "apart", "follows"):
        return _is_of_sides(word, book, row)
    if not is_book(book):
        return False
    if word == "wants":
        return is_house(book, row[0]) and is_world(row[1]) and _are_cells(row[2])
    if word == "rounds":
        return is_house(book, row[0]) and is_done(book, row[0]) and is_number(row[1])
    return _is_of_forms(word, book, row)


def _checked(claim):
    """claim, which ought to be a CLAIM, as its word, its SIDES and a tuple of its other members."""
    claim = tupled(claim)
    if not is_claim(claim):
        raise Unfit()
    return (claim[0], claim[1], claim[2:])


def stands(claim):
    """Whether claim is so."""
    return paper_against(claim) is None


def _run_past(sides, form, other):
    """A RUN of form to an END in which other does not lie; None if other lies in all of them."""
    if lies_in(other, blot(sides, form)):
        return None
    runs = [made_end(sides, form, name) for name in ("end", "stop")]
    return [run for run in runs if not lies_in(other, led(sides, form, run))][0]


def _lot_without(book, house, world, cells):
    """The least further lot that ends, if it does not have all of cells; else None."""
    lot = least_lot(book, house, world)
    return None if all([cell in lot for cell in cells]) else lot


def paper_against(claim):
    """A PAPER against claim; None if it stands."""
    word, book, row = _checked(claim)
    if word == "shown":
        return _run_past(book, row[0], row[1])
    if word == "apart":
        return common_end(book, row) if can_meet(book, row[0], row[1]) else None
    if word == "bars":
        return run_within(book, row[0], [place for place in tasks(book, row[0]) if place not in row[1]])
    if word == "always":
        return least_form(book)
    if word == "alike":
        return parting(book, row[0], row[1])
    if word == "tree":
        return stuck_form(book, row[0])
    if word == "follows":
        return odd_form(book, row[0])
    if word == "wants":
        return _lot_without(book, row[0], row[1], row[2])
    return None if len(longest_chain(book, row[0])) > row[1] else by_hands(book, row[0], _HANDS)


def _is_run_to_end(sides, form, thing):
    """Whether thing is a RUN of form that leads to an END."""
    return is_run(sides, form, thing) and is_ended(sides, led(sides, form, thing))


def _is_form_against(word, book, row, thing):
    """Whether thing is a FORM that is a PAPER against the CLAIM of these members."""
    if not _is_unmarked(thing):
        return False
    if word == "apart":
        return all([is_end_of(book, form, thing) for form in row])
    if word == "always":
        return lacks(book, thing)
    if word == "tree":
        return sign_of(thing) == row[0] and is_stuck(book, thing)
    return is_odd_form(book, row[0], thing)


def is_paper_against(claim, thing):
    """Whether thing is a PAPER against claim."""
    word, book, row = _checked(claim)
    if word == "shown":
        return _is_run_to_end(book, row[0], thing) and not lies_in(row[1], led(book, row[0], thing))
    if word == "bars":
        return _is_run_to_end(book, row[0], thing) and not any([place in row[1] for place, answer in thing])
    if word == "alike":
        return does_part(book, row[0], row[1], thing)
    if word == "wants":
        if not _are_cells(thing) or not lot_ends(book, row[0], row[1], thing):
            return False
        return not all([cell in thing for cell in row[2]])
    if word == "rounds":
        return are_rounds(book, row[0], _HANDS, thing) and len(thing) <= row[1]
    return _is_form_against(word, book, row, thing)


def first_fallen(claims):
    """The number of the first of claims that does not stand, and a PAPER against it; None if all stand."""
    claims = tupled(claims)
    if not all([is_claim(claim) for claim in claims]):
        raise Unfit()
    for number, claim in enumerate(claims):
        paper = paper_against(claim)
        if paper is not None:
            return (number, paper)
    return None


def _checked_with_reasons(claim):
    """claim as _checked tells it, with a word for which there are REASONS."""
    word, book, row = _checked(claim)
    if word not in _WITH_REASONS:
        raise Unfit()
    return (word, book, row)


def _reason(word, book, row):
    """A REASON for the CLAIM of these members; None if it does not stand."""
    if word == "shown":
        return blot_rows(book, row[0]) if lies_in(row[1], blot(book, row[0])) else None
    if word == "bars":
        return blot_rows(book, marked(row[0], row[1])) if bars(book, row[0], row[1]) else None
    if word == "always":
        told, table = verdict(book)
        return table if told == "always" else None
    if word == "tree":
        return tree_of(book, row[0])
    if word == "follows":
        return reasons(book, row[0])
    chain = longest_chain(book, row[0])
    return chain if len(chain) > row[1] else None


def reason_for(claim):
    """A REASON for claim, which ought to stand."""
    word, book, row = _checked_with_reasons(claim)
    reason = _reason(word, book, row)
    if reason is None:
        raise Unfit()
    return reason


def _is_chain(book, house, number, thing):
    """Whether thing is a tuple of more than number CELLS wanted, each among the causes of the next one."""
    if not isinstance(thing, tuple) or len(thing) <= number:
        return False
    kept, cells = wanted(book, house), cells_of(book, house)
    if not all([is_numbers(cell) and cell in kept for cell in thing]):
        return False
    return all([thing[at] in causes_in(cells, thing[at + 1]) for at in range(len(thing) - 1)])


def is_reason_for(claim, thing):
    """Whether thing is a REASON for claim."""
    word, book, row = _checked_with_reasons(claim)
    if word == "shown":
        return is_whole(book, row[0], thing) and lies_in(row[1], blot(book, row[0]))
    if word == "bars":
        return is_whole(book, marked(row[0], row[1]), thing) and bars(book, row[0], row[1])
    if word == "always":
        return is_verdict(book, ("always", thing))
    if word == "tree":
        return is_tree(book, row[0], thing)
    if word == "follows":
        return are_reasons(book, row[0], thing)
    return _is_chain(book, row[0], row[1], thing)
