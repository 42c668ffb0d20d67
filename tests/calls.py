"""For each function of the interface some calls, by the names of its parameters."""

NOUGHTS = (0, 0, 0, 0, 0, 0, 0)
BRICK, TILE = (20, 2, 40), (25, 1, 35)
MAKE = ((BRICK, TILE), 5, 10, 8, 30, 10)
WARE = ((0, 100, 0), (1, 50, 1))
MOUTH = (None, 24, 0, (), True, False, False)
MIDDLE = (None, 9, 0, (6, 8), False, False, False)
TAIL = (((0, 50, 0),), 4, 4, (), False, True, True)
OLD = (((0, 100, 2), (1, 40, 0)), 7, 48, (3,), True, False, False)
CINDER = (60, 5, 48, (4, 4), True, False, False)
HOT = (WARE, 36, 36, (15,), False, False, False)
KILN = (MAKE, (MOUTH, MIDDLE, TAIL), NOUGHTS)
RING = (MAKE, (OLD, HOT, TAIL, CINDER), (4, 3, 2, 1, 5, 6, 7))
FEED = ((0, (("pieces", 1),), ("coal", (15, 20))), (-1, (), ("damper", False)), (1, (("set",), ("below", 9)), ("open",)))
FILL = ((1, (("empty",),), ("set", ((0, 3), (1, 4)))), (-2, (("wicket", True),), ("brick",)))
TOLD = ((1, ("coal", 1, (2, 9))), (1, ("brick", 0)), (2, ("open", 0)), (3, ("wood", 2, 3)), (9, ("draw", 7)))
DEEDS = (("brick", 0), ("coal", 1, (2, 3)), ("wood", 1, 9), ("draw", 3))
PLAN = {"works": KILN, "rules": FEED, "told": TOLD, "many": 4}
LONG = {"works": RING, "rules": FILL, "told": TOLD, "many": 4}
STILL = dict(PLAN, stills=(2, 3))
LONG_STILL = dict(LONG, stills=())


def over(works, **more):
    return dict(more, works=works)


BOTH = (over(KILN), over(RING))
EACH = tuple(over(works, number=number) for works in (KILN, RING) for number in (0, 1, 2))
NO_SUCH = (over(KILN, number=3), over(RING, number=-1))
RUNS = (STILL, LONG_STILL, over(KILN, rules=(), told=((1, ("draw", 0)),), stills=(), many=1))
FIRES = (PLAN, LONG, over(KILN, rules=(), told=(), many=9), over(KILN, rules=(), told=((1, ("open", 4)),), many=1))
WITH_DEEDS = tuple(over(works, deed=deed) for works in (KILN, RING) for deed in DEEDS + (
    ("draw", 0), ("coal", 1, ()), ("set", 0, ((0, 5), (1, 6))), ("set", 0, ((2, 5),)), ("clear", 3), ("damper", 1, True), ("open", 9)))

CALLS = {
    "is_kind": ({"thing": BRICK},),
    "is_make": ({"thing": MAKE},),
    "is_pile": ({"thing": (3, 4)},),
    "pile_put": ({"pile": (3, 9), "other": (5,)}, {"pile": (), "other": ()}),
    "pile_less": ({"pile": (3, 5, 9), "many": 1}, {"pile": (3,), "many": 2}),
    "course_heats": ({"make": MAKE, "heat": 12, "many": 4},),
    "load_behind": ({"make": MAKE, "load": WARE, "heats": (30, 28)}, {"make": MAKE, "load": WARE, "heats": (90,)},
                    {"make": MAKE, "load": WARE, "heats": ()}, {"make": MAKE, "load": None, "heats": (3,)}),
    "drawn_as": ({"make": MAKE, "load": WARE}, {"make": MAKE, "load": 7}),
    "stay_left": ({"make": MAKE, "load": WARE}, {"make": MAKE, "load": None}),
    "firing_heats": ({"make": MAKE, "green": ((0, 100), (1, 50))},),
    "orders_that_fire": ({"make": MAKE, "green": ((1, 50), (0, 100), (0, 100))},),
    "is_chamber": ({"make": MAKE, "thing": OLD},),
    "is_works": ({"thing": KILN},),
    "empty_works": ({"make": MAKE, "many": 4},),
    "with_chamber": (over(KILN, number=1, chamber=OLD), over(KILN, number=3, chamber=OLD)),
    "turned_works": (over(RING, by=-5), over(KILN, by=1)),
    "mirror_works": BOTH,
    "bricks_in": BOTH,
    "test_holds": tuple(over(RING, number=1, test=test) for test in (
        ("set",), ("below", 37), ("pieces", 2), ("wicket", False))) + (over(RING, number=4, test=("set",)),),
    "seen_from": EACH + NO_SUCH,
    "draught_from": EACH + NO_SUCH,
    "all_draughts": BOTH,
    "stopped_by": EACH + NO_SUCH,
    "in_draught": EACH + NO_SUCH,
    "quiet": BOTH,
    "is_draught": (over(KILN, thing=(0, 1, 2)), over(RING, thing=3)),
    "why_quiet": EACH + NO_SUCH,
    "changed": (over(RING, changes=(("damper", 3), ("wicket", 0))), over(RING, changes=()),
                over(RING, changes=(("damper", 4),))),
    "openings_for": EACH + NO_SUCH,
    "is_openings": (over(RING, number=1, thing=(("wicket", 1),)), over(RING, number=4, thing=())),
    "lost_by": (over(KILN, change=("damper", 1)), over(KILN, change=("damper", 3))),
    "won_by": (over(KILN, change=("damper", 1)), over(KILN, change=("damper", 3))),
    "air_through": ({"heats": (24, 9, 4)},),
    "heats_before": ({"heats": (12, 11, 7), "flue": 7}, {"heats": (1,) * 13, "flue": 0}),
    "marks_done": BOTH,
    "bare_tick": BOTH,
    "still_tick": BOTH,
    "tick_parts": BOTH,
    "is_bare_tick": (over(KILN, thing=KILN),),
    "burners": BOTH,
    "kindled": BOTH,
    "fallen": BOTH,
    "heat_shares": EACH + NO_SUCH,
    "torn_next": BOTH,
    "slag_next": BOTH,
    "is_deed": ({"thing": ("draw", 0)},),
    "is_told": ({"thing": TOLD},),
    "can_do": WITH_DEEDS,
    "why_not": WITH_DEEDS,
    "done": WITH_DEEDS,
    "deeds_done": (over(RING, deeds=DEEDS[:3]), over(RING, deeds=DEEDS), over(RING, deeds=())),
    "deeds_here": EACH + NO_SUCH,
    "deed_turned": ({"deed": ("set", 2, ((0, 5),)), "by": 2, "many": 3}, {"deed": ("draw", 3), "by": 0, "many": 3}),
    "undo_of": WITH_DEEDS,
    "either_order": (over(RING, one=("coal", 1, (3, 4)), other=("wood", 1, 5)), over(RING, one=("draw", 4), other=()),
                     over(RING, one=("wood", 1, 5), other=("coal", 1, (3, 4)))),
    "doors_between": ({"works": KILN, "other": KILN[:1] + ((MOUTH[:4] + (False, True, True),) + KILN[1][1:],)
                       + KILN[2:]}, {"works": KILN, "other": KILN[:2] + ((1,) * 7,)}),
    "run": RUNS,
    "works_rows": RUNS,
    "heat_rows": RUNS,
    "ledger_rows": RUNS,
    "tops_after": RUNS,
    "as_told": RUNS,
    "told_turned": ({"told": TOLD[:4], "by": 2, "many": 3}, {"told": TOLD, "by": 2, "many": 3}),
    "told_from": ({"told": TOLD, "number": 1},),
    "stills_from": ({"stills": (1, 3, 4), "number": 1},),
    "fires_of": BOTH,
    "fronts_of": BOTH,
    "is_out": BOTH,
    "fire_at": EACH + NO_SUCH,
    "fire_rows": FIRES,
    "is_fire_rows": tuple(dict(plan, thing=((0,),)) for plan in FIRES),
    "kindled_at": FIRES,
    "comes_to": tuple(dict(plan, number=1) for plan in FIRES) + (dict(PLAN, number=3),),
    "passes": tuple(dict(plan, number=1) for plan in FIRES) + (dict(PLAN, number=-1),),
    "jumps": FIRES,
    "goes_out": FIRES,
    "cause_of": FIRES,
}

# These return a list; all others return no list at any depth.
LISTS = ("orders_that_fire", "heats_before", "deeds_here", "fires_of", "jumps")
