"""Bundles: which of some tiles one edit marks together, told by the few stretches that can make a difference."""


def span_of(margins, level, tile):
    """The tuple (latest, earliest): an edit marks the tile if it begins at most there, and ends at least there."""
    back, ahead = margins.pair(level)
    first, last = margins.ladder.owned(level, tile)
    return (last + back, first - ahead)


def _points(spans, cells):
    """The sorted cells at which stretches have to begin and to end, so that each bundle has a shortest one of them."""
    points = list(cells)
    for latest, earliest in spans:
        # An edit that begins one cell behind the latest one does not mark the tile any more.
        points.extend([latest, latest + 1, earliest])
    return sorted(set(points))


def _marked(spans, first, last):
    """The bundle of an edit of this stretch."""
    return tuple([position for position, (latest, earliest) in enumerate(spans)
                  if first <= latest and earliest <= last])


def _keep_shorter(found, bundle, first, last):
    """Let the bundle have this stretch if it has no shorter one."""
    if bundle in found:
        begin, end = found[bundle]
        if end - begin <= last - first:
            return
    found[bundle] = (first, last)


def bundles_by_kind(spans, cells, kinds):
    """For each kind a dict from its sorted bundles to a shortest stretch; a kind is a list of the touched cells."""
    points = _points(spans, cells)
    found = [{} for _ in kinds]
    for at, first in enumerate(points):
        for last in points[at:]:
            bundle = _marked(spans, first, last)
            for position, touched in enumerate(kinds):
                if all([first <= cell <= last for cell in touched]):
                    _keep_shorter(found[position], bundle, first, last)
    return [{bundle: stretches[bundle] for bundle in sorted(set(list(stretches)))} for stretches in found]
