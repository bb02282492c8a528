"""Where one comes from a thing, step by step, again and again."""


# A thing is walked from once, however many ways lead to it, so rings end, too.
def reached(start, leads):
    seen = {start: True}
    waiting = [start]
    while waiting:
        at = waiting.pop()
        for thing in leads(at):
            if thing not in seen:
                seen[thing] = True
                waiting.append(thing)
    return sorted(seen)


# A shortest way from the thing back to it, or None.
def way_back(start, leads):
    seen = {}
    ways = [[start]]
    while ways:
        way = ways.pop(0)
        for thing in leads(way[-1]):
            if thing == start:
                return way + [thing]
            if thing not in seen:
                seen[thing] = True
                ways.append(way + [thing])
    return None
