"""Things that need one another, and whether they do so in a round."""


def settled(needs):
    """Return the keys of a dict, each one behind those that its list names.

    Return None if there is no such order, as some need one another in a round.
    """
    users = {key: [] for key in needs}
    missing = {}
    for key, inner in needs.items():
        missing[key] = len(inner)
        for one in inner:
            users[one].append(key)
    ready = [key for key in needs if missing[key] == 0]
    order = []
    while ready:
        one = ready.pop()
        order.append(one)
        for key in users[one]:
            missing[key] -= 1
            if missing[key] == 0:
                ready.append(key)
    return order if len(order) == len(needs) else None
