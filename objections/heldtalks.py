"""Talks about held lots: what the defender says stays calm, the opposer says what it left unanswered."""

from objections.checks import is_word
from objections.debates import against, is_statement, mask_at, names_at, objectors, place_of, towards
from objections.lotmasks import held_masks, hit_by, is_calm, met_by
from objections.lots import lots_at
from objections.masks import count_of, places_in
from objections.talks import check_talker


def held_talk(debate, statement, defender, opposer):
    """The talk of these two, as (said, end)."""
    place_of(debate, statement)
    check_talker(defender)
    check_talker(opposer)
    if not is_calm(debate, mask_at(debate, [statement])):
        return ([], "clash")
    said = [statement]
    while unmet_objectors(debate, said):
        end = take_objection(debate, said, opposer)
        if end is None:
            end = take_answer(debate, said, defender)
        if end is not None:
            return (said, end)
    return (said, "held")


def defended(debate, said):
    """The mask of what the defender has said, which is each second thing."""
    return mask_at(debate, said[::2])


def unmet(debate, lot):
    """The objectors of a lot to which no member objects."""
    return met_by(debate, lot) & ~hit_by(debate, lot)


def unmet_objectors(debate, said):
    """The ascending list of those of what the defender has said."""
    return names_at(debate, unmet(debate, defended(debate, said)))


def take_objection(debate, said, opposer):
    """None if the opposer says what it may, which is put to what was said; else how the talk ends."""
    told = opposer(tuple(said))
    if told is None:
        return "given up"
    if not is_word(told, unmet_objectors(debate, said)):
        return "odd objector"
    said.append(told)
    return None


def take_answer(debate, said, defender):
    """Likewise for the defender."""
    told = defender(tuple(said))
    if told is None:
        return "conceded"
    if not is_word(told, objectors(debate, said[-1])):
        return "odd answer"
    if not is_calm(debate, mask_at(debate, said[::2] + [told])):
        return "clash"
    said.append(told)
    return None


def held_plan(debate, statement):
    """A defender who answers out of a held lot with the statement, None if there is none."""
    lots = least_held(debate, statement)
    if not lots:
        return None
    lot = lots[0]

    def defender(said):
        if not is_statement(debate, said[-1]):
            return None
        answers = [name for name in objectors(debate, said[-1]) if name in lot]
        return answers[0] if answers else None

    return defender


def held_opposer(debate):
    """An opposer who says the first objector that is unanswered, as long as there is one."""

    def opposer(said):
        unanswered = unmet_objectors(debate, said)
        return unanswered[0] if unanswered else None

    return opposer


def least_held(debate, statement):
    """The ascending list of the held lots with a statement that have as few members as can be."""
    place = place_of(debate, statement)
    lots = [lot for lot in held_masks(debate) if lot >> place & 1]
    if not lots:
        return []
    fewest = min([count_of(lot) for lot in lots])
    return lots_at(debate, [lot for lot in lots if count_of(lot) == fewest])


def held_length(debate, statement):
    """Who wins, and how many statements the defender says where both do their best."""
    place = place_of(debate, statement)
    lots = least_held(debate, statement)
    if lots:
        return ("defender", len(lots[0]))
    if not is_calm(debate, 1 << place):
        return ("opposer", 0)
    return ("opposer", longest_loss(debate, 1 << place, {}))


def longest_loss(debate, lot, known):
    """How many statements the defender says who has said a lot that lies in no held one."""
    if lot not in known:
        lengths = []
        for objector in places_in(unmet(debate, lot)):
            answers = calm_answers(debate, lot, objector)
            further = [longest_loss(debate, lot | (1 << answer), known) for answer in answers]
            lengths.append(max(further, default=count_of(lot)))
        known[lot] = min(lengths)
    return known[lot]


def calm_answers(debate, lot, objector):
    """The places that object to an objector and leave the lot calm."""
    barred = met_by(debate, lot) | hit_by(debate, lot)
    found = places_in(against(debate)[objector] & ~barred)
    return [answer for answer in found if not towards(debate)[answer] >> answer & 1]
