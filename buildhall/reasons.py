"""Reasons: why a job is not done, from one job to the next on which it hangs."""


def hangs_on(hall, place):
    """The place on which the job at a place hangs; None where it hangs on none."""
    told = hall.stands[place].told()
    if told[0] == "cut":
        return told[1]
    if told[0] == "blocked":
        needs = [hall.plan.place_of(need) for need in hall.plan.job_at(place).needs]
        return [need for need in needs if hall.stands[need].word() != "done"][0]
    return None


def why_not(hall, name):
    place = hall.plan.place_of(name)
    pairs = []
    while place is not None:
        pairs.append((hall.plan.job_at(place).name, hall.stands[place].told()))
        place = hangs_on(hall, place)
    return pairs


def standing(hall):
    return [(hall.plan.job_at(place).name, hall.stands[place].word()) for place in hall.plan.order()]
