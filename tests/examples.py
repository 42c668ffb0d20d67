"""The rows of the examples of [4] to [10], with the answer or the error that stands there."""


KINDS = r'''
>>> brick, tile = (20, 2, 40), (25, 1, 35)
>>> own = ((brick, tile), 5, 10, 8, 30, 0)
>>> is_kind(brick), is_kind((20, 2, 19)), is_make(own), is_pile((3, 3, 5)), is_pile((5, 3)), pile_put((3, 9), (5,)), pile_less((3, 5, 9), 1)
(True, False, True, True, False, (3, 5, 9), (5, 9))
>>> course_heats(own, 12, 3), course_heats(own, 4, 3), firing_heats(own, ((0, 100), (1, 50))), firing_heats(own, ((1, 50), (0, 100)))
((12, 7, 2), (4, 0, 0), (30, 40), (25, 35))
>>> raw = ((0, 100, 0), (1, 50, 0))
>>> load_behind(own, raw, (30, 28, 31)), load_behind(own, raw, (30, 41)), load_behind(own, None, (50,)), load_behind(own, 7, (50, 2))
(((0, 100, 3), (1, 50, 2)), 150, None, 7)
>>> drawn_as(own, ((0, 100, 2), (1, 50, 0))), stay_left(own, raw), stay_left(own, ((0, 100, 3), (1, 50, 1)))
((100, 50), 2, 0)
>>> steep = ((brick, tile), 18, 10, 8, 30, 0)
>>> firing_heats(steep, ((0, 1), (1, 1))), orders_that_fire(steep, ((1, 1), (0, 1)))
(None, [])
>>> orders_that_fire(own, ((1, 50), (0, 100)))
[((0, 100), (1, 50)), ((1, 50), (0, 100))]
>>> drawn_as(own, 7)
raises Unfit()
'''

CHAMBERS = r'''
>>> bare, baking = empty_works(own, 3), (raw, 12, 12, (3, 5), True, False, True)
>>> bare[1][0], bare[2]
((None, 0, 0, (), False, False, True), (0, 0, 0, 0, 0, 0, 0))
>>> full = with_chamber(bare, 1, baking)
>>> is_works(full), is_chamber(own, (None, 3, 1, (), False, False, True)), is_chamber(own, (((2, 5, 0),),) + baking[1:]), is_chamber(own, (7,) + baking[1:])
(True, False, False, True)
>>> bricks_in(full), bricks_in(with_chamber(full, 0, (9, 0, 0, (), True, True, True)))
((0, 150, 0), (0, 150, 9))
>>> turned_works(full, 1)[1][0] == baking, turned_works(full, -2) == turned_works(full, 1)
(True, True)
>>> torn = with_chamber(full, 0, (None, 0, 0, (), False, False, False))
>>> [own_chamber[6] for own_chamber in mirror_works(torn)[1]], mirror_works(mirror_works(torn)) == torn
([True, False, True], True)
>>> test_holds(full, 1, ("set",)), test_holds(full, 1, ("below", 12)), test_holds(full, 0, ("pieces", 1)), test_holds(full, 1, ("wicket", True))
(True, False, True, True)
>>> seen_from(with_chamber(bare, 2, (((0, 100, 9),), 4, 30, (), False, True, True)), 2)[0]
(((0, 100, 2),), 4, (), False, True, True)
>>> seen_from(full, 3)
raises NoChamber(number=3)
'''

DRAUGHTS = r'''
>>> make, plain = (((20, 2, 40),), 5, 10, 8, 30, 0), (0, 0, 0, 0, 0, 0, 0)
>>> mouth, middle = (None, 24, 0, (), True, False, False), (None, 9, 0, (6, 8), False, False, False)
>>> tail = (((0, 50, 0),), 4, 4, (), False, True, True)
>>> kiln = (make, (mouth, middle, tail), plain)
>>> draught_from(kiln, 0), all_draughts(kiln), stopped_by(kiln, 1), in_draught(kiln, 2), quiet(kiln)
((0, 1, 2), ((0, 1, 2),), ('wicket', 1), (0, 1, 2), ())
>>> walled = changed(kiln, (("screen", 0),))
>>> draught_from(walled, 0), stopped_by(walled, 0), why_quiet(walled, 2), why_quiet(walled, 0), quiet(walled)
(None, ('screen', 0), ('screen', 0), ('screen', 0), (0, 1, 2))
>>> openings_for(walled, 1), is_openings(walled, 1, (("wicket", 1),)), is_openings(walled, 1, (("damper", 1),)), openings_for(kiln, 1)
((('screen', 0),), True, False, ())
>>> lost_by(kiln, ("damper", 1)), won_by(kiln, ("damper", 1)), is_draught(kiln, (0, 1, 2)), is_draught(kiln, (0, 1))
(((0, 1, 2),), ((0, 1),), True, False)
>>> molten = (make, (mouth, (60,) + middle[1:], tail), plain)
>>> stopped_by(molten, 0), why_quiet(molten, 2)
(('slag', 1), ('slag', 1))
>>> openings_for(molten, 1)
raises NoPaper()
'''

TICKS = r'''
>>> air_through((24, 9, 4)), air_through((1, 0, 1)), heats_before((12, 11, 7), 7)
(((12, 11, 7), 7), ((1, 0, 1), 0), [(23, 10, 4), (23, 11, 3), (24, 9, 4), (24, 10, 3)])
>>> [own[1] for own in bare_tick(kiln)[1]], bare_tick(kiln)[2], bare_tick(kiln)[1][1][3], bare_tick(kiln)[1][2][2]
([12, 17, 7], (1, 7, 0, 6, 0, 0, 0), (8,), 7)
>>> burners(kiln), kindled(kiln), fallen(kiln), heat_shares(kiln, 1), still_tick(kiln) == (make, kiln[1], (1,) + plain[1:])
((1,), (1,), (), (2, 6, 0), True)
>>> [own[1][1][1] for own in tick_parts(kiln)], is_bare_tick(kiln, bare_tick(kiln)), is_bare_tick(kiln, kiln)
([11, 17, 17, 17, 17], True, False)
>>> ware, grounds = ((0, 50, 0), (0, 10, 1)), make[:5] + (10,)
>>> warm, over = (make, ((ware, 24, 30, ()) + tail[4:], middle, tail), plain), (make, ((ware, 47, 30, ()) + tail[4:], middle, tail), plain)
>>> marks_done(warm)[1][0][:3], marks_done(over)[1][0], slag_next(over), torn_next(over)
((((0, 50, 1), (0, 10, 1)), 24, 30), (60, 47, 47, (), False, True, False), (0,), (0,))
>>> still_tick((grounds, kiln[1], plain))[2], [own[1] for own in still_tick((grounds, kiln[1], plain))[1]]
((1, 0, 2, 0, 0, 0, 0), [22, 9, 4])
>>> fallen((make, (mouth[:1] + (18,) + mouth[2:], middle, tail), plain)), heats_before((3, 5), 3)
((0,), [])
'''

DEEDS = r'''
>>> craft = (((20, 2, 50),), 5, 20, 12, 40, 10)
>>> old, hot, green = (((0, 100, 2),), 24, 48, (), True, False, False), (((0, 80, 0),), 36, 36, (15,), False, False, False), (((0, 80, 0),), 4, 4, (), False, True, True)
>>> ring = (craft, (old, hot, green), (0, 0, 0, 0, 0, 0, 0))
>>> [why_not(ring, own) for own in (("draw", 0), ("draw", 1), ("clear", 1), ("open", 0), ("coal", 1, ()), ("brick", 0))]
['heat', 'wicket', 'load', 'same', 'nothing', None]
>>> can_do(ring, ("set", 2, ((0, 5),))), is_deed(("set", 7, ((4, 5),))), is_deed(("draw", True)), is_deed(("coal", 1, (5, 3)))
(False, True, False, False)
>>> deeds_here(ring, 0)
[('brick', 0), ('damper', 0, True), ('screen', 0, True)]
>>> done(ring, ("coal", 1, (3, 20)))[1][1][3], done(ring, ("wood", 1, 9))[1][1][1:3], done(ring, ("wood", 1, 9))[2]
((3, 15, 20), (45, 45), (0, 0, 0, 9, 0, 0, 0))
>>> cold = (craft, ((((0, 100, 2), (0, 40, 1)), 11, 48, (), True, False, False), hot, green), (4, 0, 0, 0, 0, 0, 0))
>>> drawn = done(cold, ("draw", 0))
>>> drawn[1][0], drawn[2], done(drawn, ("set", 0, ((0, 60),)))[1][0][:3]
((None, 11, 0, (), True, False, False), (4, 0, 0, 0, 100, 40, 0), (((0, 60, 0),), 11, 11))
>>> undo_of(ring, ("brick", 0)), undo_of(ring, ("wood", 1, 5)), deed_turned(("damper", 2, True), 2, 3)
(('open', 0), None, ('damper', 1, True))
>>> either_order(ring, ("brick", 0), ("open", 0)), either_order(ring, ("wood", 1, 5), ("coal", 1, (3,)))
(False, True)
>>> doors_between(ring, deeds_done(ring, (("brick", 0), ("screen", 2, False)))), is_told(((1, ("draw", 0)), (1, ("brick", 0))))
((('brick', 0), ('screen', 2, False)), True)
>>> done(ring, ("draw", 0))
raises Unfit()
>>> can_do(ring, ("brick", 3))
raises NoChamber(number=3)
'''

RUNS = r'''
>>> heat_rows(ring, (), (), (), 2)
((24, 36, 4), (11, 36, 13), (6, 19, 16))
>>> ledger_rows(ring, (), ((2, ("draw", 0)),), (), 2)[1:]
((1, 14, 5, 15, 0, 0, 0), (2, 30, 8, 15, 100, 0, 0))
>>> run(ring, (), (), (1,), 1)[1] == ((((0, 100, 3),), 22, 48, (), True, False, False), (((0, 80, 1),), 33, 36, (15,), False, False, False), green)
True
>>> feed = ((0, (("pieces", 1),), ("coal", (15,))),)
>>> heat_rows(ring, feed, (), (), 2)[2], as_told(ring, feed, ((2, ("draw", 0)),), (), 3)[:2]
((6, 33, 16), ((2, ('draw', 0)), (2, ('coal', 1, (15,)))))
>>> tops_after(ring, (), (), (), 2), works_rows(ring, (), (), (), 1) == (ring, run(ring, (), (), (), 1))
(((0, 48), (1, 36), (2, 16)), True)
>>> later = ((2, ("draw", 0)), (5, ("open", 2)))
>>> told_turned(later, 1, 3), told_from(later, 2), stills_from((2, 5), 2)
(((2, ('draw', 1)), (5, ('open', 0))), ((3, ('open', 2)),), (3,))
>>> run(ring, (), ((1, ("draw", 0)),), (), 1)
raises Unfit()
'''

FIRES = r'''
>>> make, bricks = (((20, 2, 90),), 0, 25, 15, 200, 0), ((0, 10, 0),)
>>> mouth = (None, 0, 0, (), True, False, False)
>>> kiln = (make, (mouth, (bricks, 80, 80, (16, 16), False, False, False), (bricks, 8, 8, (20,), False, True, True)), (0, 0, 0, 0, 0, 0, 0))
>>> fires_of(kiln), fronts_of(kiln), is_out(kiln), fire_at(kiln, 2)
([(1,)], (1,), False, None)
>>> fire_rows(kiln, (), (), 5), is_fire_rows(kiln, (), (), 2, ((1,), (1,), (1, 2))), is_fire_rows(kiln, (), (), 1, ((1,), (1, 2)))
(((1,), (1,), (1, 2), (2,), (), ()), True, False)
>>> kindled_at(kiln, (), (), 9), comes_to(kiln, (), (), 9, 2), comes_to(kiln, (), (), 9, 0), passes(kiln, (), (), 9, 2)
(((), (), (2,)), 2, None, (2,))
>>> goes_out(kiln, (), (), 9), cause_of(kiln, (), (), 9)
(4, (4, 'coal'))
>>> feed = ((0, (("pieces", 1),), ("coal", (20,))),)
>>> goes_out(kiln, feed, (), 9), cause_of(kiln, feed, (), 9)
(7, (7, 'heat'))
>>> cold = (None, 0, 0, (), False, False, False)
>>> leap = ((make[0], 0, 25, 15, 200, 10), (mouth, (bricks, 100, 100, (), False, False, False), cold, (bricks, 24, 24, (20,), False, True, True)), (0, 0, 0, 0, 0, 0, 0))
>>> jumps(leap, (), (), 1), fire_rows(leap, (), (), 1), cause_of(leap, (), ((1, ("damper", 3, False)),), 20)
([(1, 3)], ((1,), (1, 3)), (15, 'air'))
>>> comes_to(kiln, (), (), 9, 3)
raises NoChamber(number=3)
>>> goes_out(kiln, (), ((1, ("brick", 1)),), 9)
raises Unfit()
>>> cause_of(kiln, (), ((2, ("damper", 2, False)),), 9)
raises NoPaper()
'''
