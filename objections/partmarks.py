"""Parts of debates as masks, and labellings as marks that are made part by part."""

from objections.debates import against, full_mask, towards
from objections.masks import first_place, lies_in, places_in, reached_from, topmost, union_at


def tied_parts(debate, within):
    """The greatest lots of a mask that hang together, each behind those from which objections lead to it."""
    parts = []
    left = within
    for place in reversed(done_in_turn(towards(debate), within)):
        if left >> place & 1:
            part = reached_from(1 << place, against(debate), left)
            parts.append(part)
            left = left & ~part
    return parts


def done_in_turn(steps, within):
    """The places of a mask as a walk along the steps is done with them, further ones first."""
    done = []
    path = []
    unseen = within
    while unseen or path:
        further = steps[path[-1]] & unseen if path else unseen
        if further:
            path.append(first_place(further))
            unseen = unseen ^ (1 << path[-1])
        else:
            done.append(path.pop())
    return done


def parts_in_turn(debate, within, favoured):
    """The parts of a mask: next comes, of those all of whose objectors there lie in parts ahead, the first one.

    That is the one with the first place of all; those of one member come ahead of others where they are favoured.
    """
    fresh = tied_parts(debate, within)
    owners = {place: part for part in fresh for place in places_in(part)}
    ahead = sum([part for part in fresh if favoured and part & (part - 1) == 0])
    taken = ~within
    ready = 0
    turns = []
    while fresh or ready:
        for part in fresh:
            if lies_in(union_at(against(debate), part), taken | part):
                ready = ready | (part & -part)
        part = owners[first_place(ready & ahead if ready & ahead else ready)]
        turns.append(part)
        taken = taken | part
        ready = ready & ~part
        fresh = [owners[place] for place in places_in(union_at(towards(debate), part) & within & ~part)]
    return turns


def plan_of(debate, within):
    """The steps by which a mask is labelled: statements that are parts by themselves, then one part of several.

    A step is a triple of the former, each with its objectors, of the latter, 0 for none, and of its outer objectors.
    """
    plan = []
    run = []
    for part in parts_in_turn(debate, within, True):
        met = union_at(against(debate), part)
        if part & (part - 1) == 0:
            run.append((part, met))
        else:
            plan.append((run, part, met & ~part))
            run = []
    plan.append((run, 0, 0))
    return plan


def marks_by_plan(debate, plan, way, start, known):
    """The labellings of the way, "whole", "greatest" or "settled", behind the marks that are so at the start.

    known keeps those of parts, by the marks of their outer objectors.
    """
    rows = [start]
    for run, part, outer in plan:
        if run:
            rows = marks_behind_run(rows, run, way)
        if part:
            grown = []
            for ins, outs in rows:
                key = (part, ins & outer, outs & outer)
                if key not in known:
                    known[key] = marks_in(debate, part, ins & outer, outs & outer, way)
                grown.extend([(ins | more, outs | others) for more, others in known[key]])
            rows = grown
    return rows


def marks_behind_run(rows, run, way):
    """The rows of marks with those of statements that are parts by themselves, one behind another."""
    members = sum([bit for bit, _ in run])
    grown = []
    for ins, outs in rows:
        for bit, met in run:
            if met & ins:
                outs = outs | bit
            elif not met & ~outs:
                ins = ins | bit
        if way != "settled" or not members & ~(ins | outs):
            grown.append((ins, outs))
    return grown


def marks_in(debate, part, ins, outs, way):
    """The labellings of a part that are of the way, behind the marks of those that object to it from without."""
    beaten, barred = outer_marks(debate, part, ins, outs)
    found = []
    for lot, hits in answering_lots(debate, part & ~barred, part & ~beaten):
        hit = (beaten | hits) & part
        if free_in(debate, part & ~barred, part & ~hit) == lot:
            found.append((lot, hit))
    if way == "settled":
        return [(lot, hit) for lot, hit in found if lot | hit == part]
    if way == "greatest":
        tops = topmost([lot for lot, _ in found])
        return [(lot, hit) for lot, hit in found if lot in tops]
    return found


def outer_marks(debate, part, ins, outs):
    """Which members of a part are put out from without, and which are kept from being in."""
    beaten = 0
    barred = 0
    for place in places_in(part):
        outer = against(debate)[place] & ~part
        if outer & ins:
            beaten = beaten | (1 << place)
        if outer & ~outs:
            barred = barred | (1 << place)
    return (beaten, barred)


def answering_lots(debate, places, standing):
    """The calm lots of some places that object to what of those standing objects to them, with their targets."""
    rows = [(0, 0, 0)]
    for place in places_in(places):
        bit = 1 << place
        hit = towards(debate)[place]
        met = against(debate)[place] & standing
        if not hit & bit:
            rows = rows + [
                (lot | bit, hits | hit, mets | met) for lot, hits, mets in rows if not (hits & bit or hit & lot)
            ]
        # What nobody that comes later objects to has to be met by now.
        later = union_at(towards(debate), places & ~(2 * bit - 1))
        rows = [(lot, hits, mets) for lot, hits, mets in rows if lies_in(mets, hits | later)]
    return [(lot, hits) for lot, hits, _ in rows]


def free_in(debate, places, standing):
    """Those of some places to which nothing objects that is standing."""
    free = 0
    for place in places_in(places):
        if not against(debate)[place] & standing:
            free = free | (1 << place)
    return free


def least_marks(debate, within, start):
    """The least labelling of a mask, behind the marks that are so at the start."""
    ins, outs = start
    waiting = places_in(within)
    ahead = []
    while waiting != ahead:
        ahead = waiting
        waiting = []
        for place in ahead:
            met = against(debate)[place]
            if met & ins:
                outs = outs | (1 << place)
            elif not met & ~outs:
                ins = ins | (1 << place)
            else:
                waiting.append(place)
    return (ins, outs)


def least_of(debate):
    """The least labelling of all statements."""
    return least_marks(debate, full_mask(debate), (0, 0))


def marks_of_way(debate, within, way, start):
    """The labellings of a mask that are of the way, behind the marks that are so at the start."""
    if way == "least":
        return [least_marks(debate, within, start)]
    return marks_by_plan(debate, plan_of(debate, within), way, start, {})
