"""[2] and [24]: names, arguments by position, by name and as lists, and that nothing is changed."""

import copy
import importlib
import inspect
import itertools
import unittest

from tests.small import as_lists, mixed

SIDES = (("f", (), ("b",)), ("f", ("g", ()), ("a",)), ("g", ("a",)))
BOOK = (("f", (), ("a",)), ("h", ("b",)))
FORM = ("f", ("g", ("h", ("b",)), ()), ("a",))
PART = FORM[1]
LEFT, RIGHT = ("f", ("g", ()), ()), ("f", (), ("b",))
RUN = (((0, 1), ("h", ())), ((0, 1, 0), ("b",)), ((0, 0), ()), ((0, 1), ("a",)), ((), ("g", (), ())), ((1,), ("end",)))
CHAIN = (("f", ("c",)), ("h", ()))
HC = ("f", ("h", ("c",)))
BOTH, HALF = (("f", ("a",), ("b",)),), ("g", ("f", ("a",), ()), ())
NEED, TWO = (("f", (), ("b",)),), ("f", (), ())
THREE = (("f", (), ("a",), ("b",)), ("f", ("a",), ("b",), ()), ("f", ("b",), (), ("a",)))
WIDE, DEEP = ("f", (), (), ()), (("f", ("g", ()), ("a",)),)
ELEVEN = ("f", WIDE, WIDE, ("f", (), WIDE, ("g", ())))
ROW = (2, (), (0, 1), ((),))
TOO_MANY = (("f", (), ("a",), ("f", ("b",), ("b",), ())), ("f", ("a",), ("b",), ("c",)))
ONE, NOT_PLAIN = (("f", ("a",), ("b",)), ("f", ("b",), ())), (("f", ("f", ("a",))),)
MANY = (("f", ("k", ("a",), ("b",), ("c",)), ("k", ("a",), ("b",), ("c",)), ("a",)),)
TREE = ("look", (0,), ((("a", 0), ("look", (1,), ((("b", 0), ("found", ONE[0])),))), (("b", 0), ("found", ONE[1]))))
START = ((("f", 1, 2), (), ()), ())
HOUSE, WORLD = (START[0], (((2,), ("b",)),)), (((2,), ("b",)),)
ENDED = (START[0], (((0,), ("end",)), ((1,), ("end",)), ((2,), ("b",))))
BIG = (tuple(("k", number + 1, number + 1) for number in range(19)) + ((),), ())
SIXTY = tuple(((0,) * (number + 1), ()) for number in range(60))
ELEVEN_CALLS = (((),) * 11, tuple(((number,), ("a",)) for number in range(11)))
CALLED = ((("f", 1), ("h", 2), ()), (((0,), ("end",)), ((1,), ("c",))))
FEW = (START[0], (((0,), ("end",)), ((2,), ("b",))))
CODE = (("enter", (), 3, 1), ("parts", 0, 2), ("leave",), ("open", 4), ("test", (), ("f", 2), 6, 5), ("leave",),
        ("enter", (0,), 3, 7), ("test", (0,), ("a", 0), 10, 8), ("test", (0,), ("b", 0), 14, 9), ("leave",),
        ("enter", (1,), 3, 11), ("test", (1,), ("b", 0), 13, 12), ("leave",), ("call", 3), ("call", 3))
LOOP = (("test", (), ("a", 0), 0, 0),)
# For each class its module, the arguments' names, and its methods with theirs.
CLASSES = {
    "Foe": ("foes", "book seed house level",
            {"call": "cell", "waiting": "", "house": "", "log": "", "__len__": "", "bound": "", "settle": "", "world": "", "enough": ""}),
    "Quickfoe": ("foes", "book seed house level", {"call": "cell", "waiting": "", "house": "", "log": "", "__len__": "", "world": ""}),
    "Board": ("board", "book house",
              {"send": "cell", "send_sure": "", "come": "cell reply", "recall": "cell", "undo": "", "redo": "", "house": "",
               "out": "", "log": "", "shown": "", "is_over": "", "sure": "", "open_yet": "", "idle": "", "for_nothing": "",
               "wanted": "", "in_vain": "", "twin": ""}),
}

# For each module its functions, each with its arguments' names and one or more rows of arguments.
CALLS = {
    "forms": (
        ("is_form", "thing", (LEFT,), ((1,),)),
        ("is_term", "form", (LEFT,), (("a",),)),
        ("sign_of", "form", (LEFT,), ((),)),
        ("signs_in", "form", (LEFT,)),
        ("has_name", "form name", (LEFT, "g"), (LEFT, "h")),
        ("size_of", "form", (LEFT,)),
        ("places_of", "form", (LEFT,)),
        ("open_places", "form", (LEFT,)),
        ("stands_at", "form place", (LEFT, (0,)), (LEFT, (2, 1))),
        ("put_at", "form place other", (LEFT, (0, 0), RIGHT), (LEFT, (2,), RIGHT)),
        ("with_parts", "form parts", (LEFT, (RIGHT, ("a",))), (LEFT, ())),
        ("filling", "form other", (LEFT, ("f", ("g", ("a",)), RIGHT)), (LEFT, ())),
        ("lies_in", "form other", (LEFT, RIGHT), (("f", (), ()), RIGHT)),
        ("do_agree", "form other", (LEFT, RIGHT), (("a",), RIGHT)),
        ("odds_of", "form other", (LEFT, ("f", ("b",), ())), (LEFT, RIGHT)),
        ("joined", "form other", (LEFT, RIGHT), (("a",), RIGHT)),
        ("joined_all", "parts", ((LEFT, RIGHT, ()),), ((LEFT, ("a",)),)),
        ("met_form", "form other", (LEFT, RIGHT)),
        ("spelling_of", "form", (LEFT,)),
        ("form_spelled", "row", ((("f", 2), (), ("b", 0)),), ((("f", 2),),)),
    ),
    "books": (
        ("is_side", "thing", (LEFT,), (("end",),)),
        ("is_sides", "thing", (SIDES,), ((("b",), ("a",)),)),
        ("is_book", "thing", (SIDES[:2],), (SIDES,)),
        ("is_plain", "sides", (SIDES,), (CHAIN,)),
        ("parts_of", "sides", (SIDES,)),
        ("pattern_of", "side", (SIDES[1],)),
        ("signs_of", "sides", (SIDES,)),
        ("first_signs", "sides", (SIDES,)),
        ("sides_with", "sides sign", (SIDES, ("f", 2))),
        ("fitting", "sides form", (SIDES, ("f", ("g", ("a",)), ("a",))), (SIDES, ())),
        ("agreeing", "sides form", (SIDES, ("f", (), ()))),
        ("under", "side place", (SIDES[1], (0, 0, 4)), (SIDES[1], (2,))),
        ("overlaps", "sides", (SIDES,)),
        ("is_overlap", "sides thing", (SIDES, (2, 1, (0,))), (SIDES, (2, 1, ()))),
        ("overlap_form", "sides overlap", (SIDES, (2, 1, (0,))), (SIDES, (2, 3, (0,))), (SIDES, (2, 1, (1,)))),
        ("books_within", "sides", (SIDES,)),
        ("most_book", "sides", (SIDES,)),
        ("spoilers", "sides", ((("f", ("f", ())), ("g", ())),)),
        ("fits_in", "sides form", (SIDES, ("f", ("g", ("a",)), ("a",)))),
        ("clash", "sides form", (SIDES, ("f", ("g", ("a",)), ("a",)))),
        ("split_by", "sides form place", (SIDES, TWO, (0,)), (SIDES, TWO, (4,)), (SIDES, TWO, ())),
    ),
    "runs": (
        ("due_places", "sides form", (BOOK, FORM)),
        ("side_at", "sides form place", (BOOK, FORM, (0, 0)), (BOOK, FORM, (9,))),
        ("is_standing", "sides form", (BOOK, FORM), (BOOK, TWO)),
        ("is_ended", "sides form", (BOOK, FORM), (BOOK, ("a",))),
        ("outermost_due", "sides form", (BOOK, FORM)),
        ("skeleton", "sides form", (BOOK, PART)),
        ("tasks", "sides form", (BOOK, PART)),
        ("can_call", "sides form place", (BOOK, FORM, (0, 1)), (BOOK, FORM, (5,))),
        ("called", "sides form place answer", (BOOK, FORM, (0, 1), LEFT), (BOOK, FORM, (0,), LEFT)),
        ("is_run", "sides form thing", (BOOK, FORM, RUN), (BOOK, FORM, RUN[1:])),
        ("led", "sides form run", (BOOK, FORM, RUN), (BOOK, FORM, RUN[1:])),
        ("forms_along", "sides form run", (BOOK, FORM, RUN)),
        ("answered", "sides form answers", (BOOK, PART, (("b",), ("h", ("b",)))), (BOOK, PART, ())),
        ("exchanged", "sides form run number", (BOOK, PART, (((0,), ("b",)), ((1,), ())), 0), (BOOK, PART, (), 3)),
        ("washed", "book form run", (BOOK, FORM, RUN)),
        ("unwashed", "book form run", (BOOK, FORM, RUN)),
    ),
    "blots": (
        ("struck_by", "sides form", (CHAIN, ("h", ()))),
        ("blot", "sides form", (CHAIN, ("g", HC, ("a",)))),
        ("is_struck_whole", "sides form", (CHAIN, HC), (CHAIN, ("a",))),
        ("blot_rows", "sides form", (CHAIN, HC)),
        ("can_strike", "sides form place", (CHAIN, HC, (0,)), (CHAIN, HC, (1,))),
        ("strike", "sides form place", (CHAIN, HC, (0,)), (CHAIN, HC, ())),
        ("is_strikes", "sides form thing", (CHAIN, HC, (((0,), 1),)), (CHAIN, HC, (((0,), 0),))),
        ("struck", "sides form strikes", (CHAIN, HC, (((0,), 1),)), (CHAIN, HC, (((0,), 0),))),
        ("is_whole", "sides form thing", (CHAIN, HC, (((0,), 1), ((), 0))), (CHAIN, HC, (((0,), 1),))),
        ("strikes_by", "sides form order", (CHAIN, HC, ((), (0,))), (CHAIN, HC, ((), (4,)))),
        ("undecided", "sides form", (CHAIN, HC)),
        ("holds_up", "sides form places", (CHAIN, HC, ((0, 0),)), (CHAIN, HC, ((4, 0),))),
        ("greatest_held", "sides form", (CHAIN, HC)),
        ("reaches", "sides form", ((("f", ("g",)), ("g",)), ("g",)), (CHAIN, ("a",))),
    ),
    "ends": (
        ("can_become", "sides form wish", (BOTH, HALF, ("g", ("c",), ()))),
        ("made_into", "sides form wish", (BOTH, HALF, ("g", ("c",), LEFT)), (BOTH, HALF, ())),
        ("made_end", "sides form name", (BOTH, HALF, "stop")),
        ("is_end_of", "sides form other", (BOTH, HALF, ("g", ("c",), ("c",)))),
        ("can_meet", "sides form other", (BOTH, HALF, ("g", ("c",), ()))),
        ("common_end", "sides parts", (BOTH, (HALF, ("g", ("c",), ()))), (BOTH, (HALF, ("a",)))),
        ("parting_place", "sides form other", (BOTH, HALF, ("a",))),
    ),
    "needs": (
        ("marked", "form lot", (TWO, ((0,),)), (TWO, ((0,), (3,)))),
        ("is_needed", "book form place", (NEED, TWO, (1,)), (NEED, TWO, ())),
        ("needed_tasks", "book form", (NEED, TWO)),
        ("spare_tasks", "book form", (NEED, TWO)),
        ("first_needed", "book form", (NEED, TWO)),
        ("run_without", "book form place", (NEED, TWO, (0,)), (NEED, TWO, (1,)), (NEED, TWO, (2,))),
        ("spares", "form run place", (TWO, (((1,), ("b",)), ((), ("end",))), (0,)), (TWO, (), (2,))),
        ("call_of", "form run place", (TWO, (((1,), ("b",)), ((), ("end",))), (1,)), (TWO, (), (2,))),
        ("why_needed", "book form place", (CHAIN, ("f", ("h", ())), (0,)), (CHAIN, HC, ())),
        ("is_why_needed", "book form place thing", (CHAIN, ("f", ("h", ())), (0,), ())),
        ("need_run", "book form answers", (NEED, TWO, (("b",), ("end",), ("a",))), (THREE, ("f", (), (), ()), ((),))),
    ),
    "lots": (
        ("bars", "book form lot", (THREE, WIDE, ((0,), (2,))), (THREE, WIDE, ((0,), (5,))), (THREE, WIDE, ((),))),
        ("is_enough", "book form lot", (THREE, WIDE, ((0,), (2,))), (THREE, WIDE, ((0,), (5,)))),
        ("least_barring", "book form", (THREE, WIDE), (THREE, ELEVEN)),
        ("least_enough", "book form", (THREE, WIDE), (THREE, ELEVEN)),
        ("width", "book form", (THREE, WIDE), (THREE, ("a",)), (THREE, ELEVEN)),
        ("cheapest_barring", "book form prices", (THREE, WIDE, (5, 1, 2)), (THREE, WIDE, (5, 1))),
        ("cheapest_enough", "book form prices", (THREE, WIDE, (5, 1, 2)), (THREE, WIDE, (5, 1))),
        ("run_within", "book form lot", (THREE, WIDE, ((0,), (2,))), (THREE, WIDE, ((0,),)), (THREE, WIDE, ((5,),))),
        ("share", "book form", (THREE, WIDE), (THREE, ("a",)), (THREE, ELEVEN)),
        ("weighing", "book form", (THREE, WIDE), (THREE, ("a",)), (THREE, ELEVEN)),
        ("spread", "book form", (THREE, WIDE), (THREE, ("a",)), (THREE, ELEVEN)),
        ("is_weighing", "book form thing", (THREE, WIDE, (1, 1, 1)), (THREE, WIDE, (1, 1, 2))),
        ("is_spread", "book form thing",
         (THREE, WIDE, ((((0,), (1,)), 1), (((0,), (2,)), 1), (((1,), (2,)), 1))), (THREE, WIDE, ((((0,), (1,)), 1),))),
        ("blockers", "lots", ((((0,), (1,)), ((0,), (2, 1))),), (tuple(((number,),) for number in range(11)),)),
    ),
    "rows": (
        ("row_of", "book form", (THREE, WIDE), (THREE, ("f", ("a",), ("b",), ()))),
        ("row_over", "book name rows", (DEEP, "f", ((1, (1,), (1,), ((1,),)), (0, (0,), (0,), ()))), (DEEP, "g", (ROW,))),
        ("closed_table", "book", (THREE,), (TOO_MANY,)),
        ("is_closed", "book thing", ((), (((0, (), (), ()), ("end",)), ((2, (), (), ((),)), ()))), (THREE, ())),
        ("are_alike", "book form other", (THREE, ("a",), ("b",)), (THREE, ("f", ("a",), ("b",), ()), ())),
        ("parting", "book form other", (THREE, ("a",), ("b",)), (TOO_MANY, ("a",), ("b",))),
        ("does_part", "book form other thing", (THREE, ("a",), ("b",), (("f", (), ("b",), ()), (0,)))),
        ("alike_sets", "book", (THREE,), (TOO_MANY,)),
    ),
    "always": (
        ("always_needs", "book", (THREE,), (DEEP,), (TOO_MANY,)),
        ("lacks", "book form", (THREE, WIDE), (THREE, ())),
        ("is_struck", "book form", (THREE, WIDE), (THREE, ("a",))),
        ("least_form", "book", (THREE,), (DEEP,), (TOO_MANY,)),
        ("verdict", "book", (THREE,), (DEEP,), (TOO_MANY,)),
        ("is_verdict", "book thing", (THREE, ("lacks", WIDE)), (THREE, ("always", ()))),
        ("lacking_signs", "book", (THREE,), (DEEP,), (TOO_MANY,)),
        ("how_many", "book size", (THREE, 4), (THREE, 11)),
        ("nest", "form depth", (("f", (), ("a",)), 2), (("f", (), ("a",)), 300)),
        ("nest_lot", "book form depth", (THREE, WIDE, 2), (THREE, WIDE, 5), (THREE, ("a",), 0)),
    ),
    "looks": (
        ("wanted_looks", "book form", (ONE, TWO), (NOT_PLAIN, TWO)),
        ("is_stuck", "book form", (THREE, WIDE), (ONE, TWO), (NOT_PLAIN, TWO)),
        ("tree_of", "book sign", (ONE, ("f", 2)), (THREE, ("f", 3)), (ONE, ("g", 2)), (NOT_PLAIN, ("f", 1))),
        ("is_tree", "book sign thing", ((("c",),), ("c", 0), ("found", ("c",))), (ONE, ("f", 2), ("found", ONE[0]))),
        ("stuck_form", "book sign", (THREE, ("f", 3)), (ONE, ("f", 2)), (ONE, ("g", 2))),
        ("count_trees", "book sign", (THREE, ("f", 3)), (BOTH, ("f", 2)), (ONE, ("g", 2))),
        ("all_trees", "book sign", (BOTH, ("f", 2)), (MANY, ("f", 3)), (ONE, ("g", 2))),
        ("least_tree", "book sign", (BOTH, ("f", 2)), (THREE, ("f", 3)), (ONE, ("g", 2))),
        ("least_height", "book sign", (BOTH, ("f", 2)), (THREE, ("f", 3)), (ONE, ("g", 2))),
        ("looks_in", "tree", (TREE,)),
        ("longest_in", "tree", (TREE,)),
        ("ways_of", "tree", (TREE,)),
        ("look_along", "tree form", (TREE, ("f", ("a",), ())), (TREE, ("f", ("b",), ("c",)))),
        ("has_trees", "book", (ONE,), (THREE,), (NOT_PLAIN,)),
        ("next_place", "book form", (ONE, ("f", TWO, ())), (THREE, ())),
        ("asked_for", "book form", (ONE, ("g", TWO, ("f", ("b",), ()))), (THREE, ())),
    ),
    "cells": (
        ("is_plan", "thing", ((("f", 1, 2), (), ()),), (1,)),
        ("is_reply", "thing", (("f", 0, ()),), (("F",),)),
        ("is_cell_name", "thing", ((0, 2),), ((),)),
        ("is_house", "book thing", (NEED, HOUSE), (NEED, (HOUSE[0], (((0,), ("end",)),)))),
        ("plan_of", "form", (("f", (), ("a",)),)),
        ("node_of", "reply place", (("g", 0, ("h", ())), (1, 0)), (("g", 0), (0, 0))),
        ("all_cells", "book house", (NEED, HOUSE)),
        ("own_cell", "book house cell", (NEED, HOUSE, (0,)), (NEED, HOUSE, (7,))),
        ("end_of", "book house cell", (NEED, HOUSE, (2,)), (NEED, HOUSE, (7,))),
        ("cell_form", "book house cell", (NEED, HOUSE, (0,)), (NEED, HOUSE, (7,)), (NEED, BIG, (0,))),
        ("met_cells", "book house", (NEED, HOUSE)),
        ("placed", "book house", (NEED, HOUSE), (NEED, BIG)),
        ("cell_places", "book house cell", (NEED, HOUSE, (1,)), (NEED, HOUSE, (7,)), (NEED, BIG, (0,))),
        ("cell_side", "book house cell", (NEED, HOUSE, (0,)), (NEED, HOUSE, (7,))),
        ("found_cells", "book house cell", (NEED, HOUSE, (0,)), (NEED, HOUSE, (7,))),
        ("ready", "book house", (NEED, HOUSE)),
        ("tasks_of", "book house", (NEED, HOUSE)),
        ("is_done", "book house", (NEED, HOUSE)),
        ("with_call", "book house cell reply", (NEED, HOUSE, (0,), ("g", 0)), (NEED, HOUSE, (2,), 0), (NEED, HOUSE, (7,), 0)),
        ("causes", "book house cell", (NEED, HOUSE, (0,)), (NEED, HOUSE, (2, 0)), (NEED, HOUSE, (7,))),
        ("is_sure", "book house cell", (NEED, HOUSE, (0,)), (NEED, HOUSE, (2,)), (NEED, HOUSE, (7,)), (NEED, BIG, (19,))),
    ),
    "worlds": (
        ("is_world", "thing", ((((0,), 0),),), (1,)),
        ("reply_at", "world cell", (WORLD, (2,)), (WORLD, (0,))),
        ("house_led", "book house world log", (NEED, START, WORLD, ((2,), (0,))), (NEED, START, WORLD, ((0,),)),
         (NEED, START, WORLD, ((7,),))),
        ("rounds", "book house world", (NEED, START, WORLD), (NEED, (((),), ()), SIXTY)),
        ("can_make", "book house world lot", (NEED, START, WORLD, ((0,), (2,))), (NEED, START, WORLD, ((0,),))),
        ("lot_ends", "book house world lot", (NEED, START, WORLD, ((0,), (2,))), (NEED, START, WORLD, ((2,),))),
        ("least_lot", "book house world", (NEED, START, WORLD), (NEED, (((),), ()), SIXTY)),
        ("wanted", "book house", (NEED, ENDED), (NEED, HOUSE)),
        ("in_vain", "book house", (NEED, ENDED), (NEED, HOUSE)),
        ("orders", "book house", (NEED, ENDED)),
        ("longest_chain", "book house", (NEED, ENDED), (NEED, HOUSE)),
        ("by_hands", "book house hands", (NEED, ENDED, 2), (NEED, HOUSE, 2), (NEED, HOUSE, 0)),
        ("are_rounds", "book house hands thing", (NEED, ENDED, 2, (((2,),), ((0,),))), (NEED, HOUSE, 2, ())),
        ("all_lots", "book house", (NEED, ENDED), (NEED, ELEVEN_CALLS)),
        ("shared_house", "book house other", (NEED, ENDED, HOUSE), (NEED, ENDED, BIG)),
        ("joined_house", "book house other", (NEED, HOUSE, (HOUSE[0], (((1,), ("a",)),))), (NEED, ENDED, BIG)),
    ),
    "engines": (
        ("is_engine", "thing", (("picks", (0,)),), (("picks", ()),)),
        ("sure_cells", "book house", (NEED, START), (NEED, BIG)),
        ("is_block", "book house cells", (NEED, START, ((2,),)), (NEED, START, ((7,),)), (NEED, BIG, ((0,),))),
        ("next_calls", "book house engine", (NEED, START, ("picks", (3, 4))), (NEED, BIG, ("all",))),
        ("rounds_by", "book house world engine", (NEED, START, WORLD, ("all",)), (NEED, BIG, WORLD, ("all",))),
        ("log_by", "book house world engine", (NEED, START, WORLD, ("left",)), (NEED, BIG, WORLD, ("all",))),
        ("end_by", "book house world engine", (NEED, START, WORLD, ("lots",)), (NEED, BIG, WORLD, ("all",))),
        ("spent_by", "book house world engine", (NEED, START, WORLD, ("left",)), (NEED, BIG, WORLD, ("all",))),
        ("race", "book house world row", (NEED, START, WORLD, (("need",), ("left",))), (NEED, BIG, WORLD, (("all",),))),
    ),
    "foes": (
        ("is_seed", "book thing", (THREE, WIDE), (THREE, ("f", ("a",), (), ()))),
        ("ways", "book seed", (THREE, WIDE), (THREE, ELEVEN), (THREE, ())),
        ("slack", "book seed level", (THREE, WIDE, 2), (THREE, ELEVEN, 0), (NEED, TWO, 1)),
        ("quick_costs", "book seed level", (THREE, WIDE, 2), (THREE, ELEVEN, 0), (NEED, TWO, 1)),
        ("coin_worlds", "book seed number", (THREE, WIDE, 2), (THREE, ELEVEN, 1), (NEED, TWO, 1)),
    ),
    "follows": (
        ("follows", "sides other", (CHAIN, (HC,)), ((HC,), CHAIN)),
        ("reasons", "sides other", (CHAIN, (("f", ("h", ())),)), (CHAIN, (("f", ("g", ())),))),
        ("are_reasons", "sides other thing", (CHAIN, (("f", ("h", ())),), ((((0,), 1), ((), 0)),)), (CHAIN, (HC,), ((),))),
        ("odd_form", "sides other", ((HC,), CHAIN), (CHAIN, (HC,))),
        ("is_odd_form", "sides other thing", ((HC,), CHAIN, ("h", ())), (CHAIN, (HC,), ())),
        ("idle_sides", "sides", ((("f", ("c",)), ("f", ("h", ())), ("h", ())),)),
        ("with_side", "book side", (NEED, ("g", ())), (CHAIN, ("f", ("h", ())))),
        ("both_books", "book other", (NEED, CHAIN), (CHAIN, (("f", ("h", ())),))),
        ("without_side", "book side", (CHAIN, ("h", ())), (CHAIN, ("h", ("a",)))),
        ("own_lacking", "book other form", (THREE, (("k", ("c",)),), ("f", ("k", ()), (), ())), (THREE, NEED, WIDE),
         (THREE, (("k", ("c",)),), ("k", ()))),
        ("clashes", "book", (THREE,), (NOT_PLAIN,)),
        ("healings", "book", (THREE,), (NOT_PLAIN,)),
        ("turned_tasks", "book other form", (CHAIN, (("f", ("c",)),), ("f", ("h", ())))),
        ("kept_house", "book other house", (CHAIN, (("h", ()),), CALLED)),
        ("lost_calls", "book other house", (CHAIN, (("f", ("c",)),), CALLED)),
    ),
    "code": (
        ("is_code", "thing", ((("leave",),),), ((("call", 1),),)),
        ("code_of", "trees", (((("f", 2), TREE),),)),
        ("book_code", "book", (ONE,), (THREE,), (NOT_PLAIN,)),
        ("trees_in", "code", (CODE,), (LOOP,)),
        ("first_state", "form", (TWO,)),
        ("ran", "code state", (CODE, (TWO, 0, (), ())), (CODE, (TWO, 15, (), ())), (LOOP, (TWO, 0, (), ())),
         ((("enter", (2,), 0, 0),), (TWO, 0, (), ()))),
        ("replied", "state answer", ((TWO, 3, (0,), ((1, ()),)), ("g", ()))),
        ("run_code", "code form answers", (CODE, ("f", TWO, ()), (("a",), ("b",))), ((("enter", (2,), 0, 0),), TWO, ())),
        ("least_code", "code", (CODE,)),
        ("do_alike", "code other", (CODE, CODE), (CODE, LOOP)),
    ),
    "judge": (
        ("is_claim", "thing", (("always", NEED),), (("sure", NEED),)),
        ("stands", "claim", (("shown", BOTH, ("f", ("c",), ()), ("f", ("c",), ())),), (("sure", NEED),), (("always", TOO_MANY),)),
        ("paper_against", "claim", (("bars", THREE, WIDE, ((0,),)),), (("always", THREE),), (("bars", NEED, TWO, ((),)),)),
        ("is_paper_against", "claim thing", (("always", THREE), WIDE), (("always",), WIDE)),
        ("first_fallen", "claims", ((("always", NEED), ("apart", BOTH, (), ())),), ((("always", THREE), ("no",)),)),
        ("reason_for", "claim", (("rounds", NEED, FEW, 1),), (("always", THREE),), (("apart", BOTH, ("a",), ("b",)),)),
        ("is_reason_for", "claim thing", (("rounds", NEED, FEW, 1), ((2,), (0,))), (("apart", BOTH, ("a",), ("b",)), ())),
    ),
    "texts": (
        ("form_word", "form", (LEFT,)),
        ("reply_word", "reply", (("f", 2, ()),)),
        ("cell_word", "cell", ((0, 2),)),
        ("form_text", "form", (LEFT,)),
        ("sides_text", "sides", (CHAIN,)),
        ("plan_text", "plan", (START[0],)),
        ("house_text", "house", (ENDED,)),
        ("world_text", "world", (WORLD,)),
        ("log_text", "log", (((2,), (0, 1)),)),
        ("form_of", "word", ("f(_,g(a,_))",), ("f()",)),
        ("reply_of", "word", ("f(2,_)",), ("02",)),
        ("cell_of", "word", ("0.2",), ("",)),
        ("read_form", "text", ("form f(_)\n",), ("form f(_)\n\n",)),
        ("read_sides", "text", ("side f(_)\nside g(_)",), ("side end",)),
        ("read_plan", "text", ("cell f 1\ncell _\n",), ("cell f 1\n",), ("cell",)),
        ("read_house", "text", ("cell _\ncall 0 a\n",), ("cell f 1\n",), ("",)),
        ("read_world", "text", ("reply 0.1 3",), ("reply 0",)),
        ("read_log", "text", ("called 1\ncalled 0",), ("called 1\ncalled 1",)),
    ),
    "desk": (
        ("is_request", "thing", ("come 1 g(0)",), (1,)),
        ("replies", "book house text", (NEED, START, "sure\nundo"), (NEED, START, "sure\n")),
    ),
}

# By an argument's name, what is passed for it beside the rows above: FORMS with OPEN in them, and the like.
SOME_SIDES = (CHAIN, THREE[:1], (("f", (), ()), ("f", ("g", ()), ("a",)), ("g", ("a",))))
SOME_FORMS = ((), ("h", ()), ("f", ("h", ())), ("g", ("f", (), ()), ()), ("f", ("g", ()), ("h", ("a",))))
SOME_PLACES = ((), (0,), (0, 0), (2,))
VALUES = {
    "sides": SOME_SIDES, "book": SOME_SIDES[:2], "form": SOME_FORMS, "other": SOME_FORMS, "wish": SOME_FORMS,
    "answer": SOME_FORMS[:2], "side": SOME_FORMS[1:], "place": SOME_PLACES, "number": (0, 1), "name": ("end", "g"),
    "sign": (("f", 1), ("g", 1)), "overlap": ((0, 1, ()), (2, 1, (0,)), (1, 1, ())),
    "parts": (((), ("h", ())), (SOME_FORMS[3],)), "answers": ((), (("h", ()),), (("a",), ())),
    "row": ((("f", 2), (), ("g", 1), ()), ()), "run": ((), (((0,), ("h", ())), ((0,), ())), (((0, 0), ("a",)),)),
    "tree": (TREE, ("found", ("h", ()))), "reply": (0, ("h", 0), ("g", (), 5)),
    "house": (START, HOUSE, (START[0], (((1,), ("h", ())), ((2,), 0))), ((("g", 1), ("a",)), ())), "cell": ((0,), (2,), (2, 0)),
    "cells": ((), ((1,), (2,)), ((0,), (5,))), "world": ((), WORLD, (((0,), ("h", 0)),)), "log": ((), ((1,), (2,)), ((0,),)),
    "worlds other": (START, HOUSE, (((),), ())), "engines row": ((), (("all",), ("picks", (2,)))),
    "hands": (1, 3, 0), "engine": (("need",), ("lots",), ("picks", (1, 0))),
    "prices": ((), (1,), (2, 1)), "lots": ((), (((0,), (1,)), ((0,),)), ((),)), "depth": (0, 2), "size": (3, 11),
    "rows": ((), (ROW,), (ROW, (0, (0,), (0,), ()))),
    "seed": (WIDE, TWO), "level": (0, 3), "foes book": (THREE, CHAIN), "follows other": SOME_SIDES, "own_lacking other": SOME_SIDES[:2],
    "trees": ((), ((("f", 2), TREE),)), "code": (CODE, CODE[:1] * 4, (("leave",),)), "code other": (CODE, (("leave",),)),
    "state": ((TWO, 0, (), ()), (("f", ("a",), ("b",)), 6, (), ((1, ()),)), (TWO, 9, (0,), ((0, (5,)),)), (TWO, 15, (), ())),
    "claim": (("always", THREE), ("shown", CHAIN, HC, ()), ("apart", CHAIN, HC, ()), ("bars", NEED, TWO, ((0,),)), ("follows", CHAIN, ()),
              ("alike", THREE, ("a",), ("b",)), ("tree", THREE, ("f", 3)), ("wants", NEED, START, WORLD, ((2,),)), ("rounds", NEED, FEW, 2)),
    "claims": ((), (("always", NEED), ("always", THREE)), (("tree", NEED, ("f", 2)), ())),
    "word": ("f(_,g(a,_))", "0", "a.b", "0.1", ""), "plan": (START[0], ((),)), "text": ("", "form _\n", "cell _", "reply 0 0\n", "called 0\nout"),
    "lot": (((0,),), ((), (0, 0))), "places": (((0,),), ((), (0, 0)), ((1,), (1, 0))), "order": (((0,), ()), ((), (0,))),
    "strikes": ((), (((0,), 1),), (((0,), 1), ((), 0))),
    "thing": ((), ("h", ()), (((0,), 1),), (((0,), ("a",)), ((0,), ())), SOME_SIDES[2], (0, 1, ())),
}


def rows_of_calls():
    """For each row of arguments: the function, its arguments' names, the arguments."""
    out = []
    for module, functions in CALLS.items():
        home = importlib.import_module("notinvain." + module)
        for name, words, *rows in functions:
            out.extend((getattr(home, name), words.split(), row) for row in rows)
    return out


def values_for(module, name, word):
    """What is passed for the argument word of the function name of a module."""
    return VALUES.get(name + " " + word) or VALUES.get(module + " " + word) or VALUES[word]


def came(deed, *row, **named):
    """What comes of a call: what it returns, or its error with all that this keeps."""
    try:
        out = deed(*row, **named)
        # These return a list, each time a new one.
        if deed.__name__ in ("placed", "rounds", "rounds_by", "replies"):
            assert isinstance(out, list) and out is not deed(*row, **named)
            out = tuple(out)
        return ("returned", out)
    except (LookupError, ValueError) as error:
        return (type(error).__module__, type(error).__name__, vars(error))


def has_list(value):
    """Whether a list is in value."""
    return isinstance(value, list) or isinstance(value, tuple) and any(has_list(part) for part in value)


class Interface(unittest.TestCase):

    def test_defined_in_its_file_with_its_arguments(self):
        for module, functions in CALLS.items():
            home = importlib.import_module("notinvain." + module)
            for name, words, *_ in functions:
                own = getattr(home, name)
                self.assertTrue(inspect.isfunction(own), name)
                self.assertEqual((own.__module__, own.__name__), ("notinvain." + module, name))
                self.assertEqual(list(inspect.signature(own).parameters), words.split(), name)

    def test_classes(self):
        for name, (module, words, methods) in CLASSES.items():
            own = getattr(importlib.import_module("notinvain." + module), name)
            self.assertTrue(inspect.isclass(own), name)
            self.assertEqual((own.__module__, own.__bases__), ("notinvain." + module, (object,)), name)
            self.assertEqual(list(inspect.signature(own).parameters), words.split(), name)
            for method, names in methods.items():
                self.assertIn(method, vars(own), name)
                self.assertEqual(list(inspect.signature(vars(own)[method]).parameters)[1:], names.split(), method)

    def test_how_many(self):
        self.assertEqual([len(CALLS[module]) for module in CALLS], [20, 21, 16, 14, 7, 11, 14, 8, 10, 16, 21, 16, 9,
                                                                5, 15, 10, 7, 18, 2])

    def test_no_error_that_is_not_of_the_package(self):
        for deed, _, row in rows_of_calls():
            self.assertIn(came(deed, *row)[0], ("returned", "notinvain.errors"), (deed, row))

    def test_returned_tuples_throughout(self):
        for deed, _, row in rows_of_calls():
            self.assertFalse(has_list(came(deed, *row)[-1]), deed)

    def test_by_names(self):
        for deed, names, row in rows_of_calls():
            self.assertEqual(came(deed, **dict(zip(names, row))), came(deed, *row), deed)
            turned = dict(reversed(list(zip(names, row))))
            self.assertEqual(came(deed, **turned), came(deed, *row), deed)

    def test_lists_for_tuples(self):
        for deed, names, row in rows_of_calls():
            for change in (as_lists, mixed, lambda part: mixed(part, 1)):
                own = [part if name == "thing" else change(part) for name, part in zip(names, row)]
                told = came(deed, *own)
                self.assertEqual(told, came(deed, *row), deed)
                self.assertFalse(has_list(told[-1]), deed)
                self.assertFalse(told[0] != "returned" and any(has_list(part) for part in told[2].values()), deed)

    def test_lists_for_tuples_in_many_calls(self):
        for module, functions in CALLS.items():
            home = importlib.import_module("notinvain." + module)
            for name, words, *_ in functions:
                deed, names = getattr(home, name), words.split()
                for row in itertools.product(*[values_for(module, name, word) for word in names]):
                    own = [part if name == "thing" else as_lists(part) for name, part in zip(names, row)]
                    told = came(deed, *row)
                    self.assertIn(told[0], ("returned", "notinvain.errors"), (name, row))
                    self.assertEqual(came(deed, *own), told, (name, row))

    def test_arguments_stay_as_they_were(self):
        for deed, names, row in rows_of_calls():
            own = [part if name == "thing" else as_lists(part) for name, part in zip(names, row)]
            kept = copy.deepcopy(own)
            came(deed, *own)
            self.assertEqual(own, kept, deed)

    def test_again(self):
        rows = rows_of_calls()
        told = [came(deed, *row) for deed, _, row in rows]
        for (deed, _, row), first in zip(reversed(rows), reversed(told)):
            self.assertEqual(came(deed, *copy.deepcopy(row)), first, deed)

    def test_changed_and_asked_again(self):
        """Lists that were told before and are filled anew are read anew."""
        by_deed = {}
        for deed, names, row in rows_of_calls():
            by_deed.setdefault(deed, (names, []))[1].append(row)
        for deed, (names, rows) in by_deed.items():
            own = [as_lists(part) if name != "thing" else part for name, part in zip(names, rows[0])]
            for row in rows + rows[:1]:
                for at, name in enumerate(names):
                    if name != "thing" and isinstance(own[at], list) and isinstance(row[at], tuple):
                        own[at][:] = as_lists(row[at])
                    else:
                        own[at] = row[at]
                self.assertEqual(came(deed, *own), came(deed, *row), deed)

    def test_deeply_changed_and_asked_again(self):
        from notinvain.blots import blot
        from notinvain.needs import needed_tasks
        from notinvain.runs import due_places, tasks
        sides, form = as_lists(NEED), ["f", ["a"], ["c"]]
        self.assertEqual((due_places(sides, form), tasks(sides, form)), ((), ()))
        form[2][0] = "b"
        self.assertEqual((due_places(sides, form), tasks(sides, form)), (((),), ((),)))
        sides[0][2][0] = "d"
        self.assertEqual((due_places(sides, form), blot(sides, form)), ((), ("f", ("a",), ("b",))))
        del form[2][:]
        self.assertEqual((blot(sides, form), needed_tasks(sides, form)), ((), ((1,),)))
        sides[0][1].append("a")
        form[1].append([])
        self.assertEqual(needed_tasks(sides, form), ((0, 0), (1,)))

    def test_thing_may_be_a_list_only_to_be_refused(self):
        for deed, names, row in rows_of_calls():
            if names[-1] == "thing" and row[-1] != 1 and came(deed, *row)[0] == "returned":
                self.assertIs(deed(*row[:-1], list(row[-1])), False, deed)


if __name__ == "__main__":
    unittest.main()
