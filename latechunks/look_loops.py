"""Looks at papers that tell in which order loops are best taken."""

from latechunks.late import lateness
from latechunks.loops import BestOrder, check_ordered, is_order_of
from latechunks.ratios import Ratio


def shows_best_order(loops, setting, paper):
    """Whether any value is a right BestOrder; its order need not be the one that best_order tells."""
    check_ordered(loops, setting)
    if not isinstance(paper, BestOrder) or not isinstance(paper.names, tuple) or not is_order_of(loops, paper.names):
        return False
    names = paper.names
    row = loops.ordered(*names)
    late = lateness(row.joined(), setting)
    if late is None:
        return paper.late is None and paper.last is None
    if not isinstance(paper.late, Ratio) or paper.late != late:
        return False
    return paper.last in row and len(row[paper.last]) > 0 and is_least(row, setting, late, paper.last)


def is_least(row, setting, late, last):
    """Whether each loop up to the last one is as late, wherever it stands, with no more items behind it than that."""
    up_to = row.until(last)
    behind = row.joined().total - up_to.joined().total
    lowered = Ratio(setting.least * behind, setting.crew.speed)
    owns = [lateness(chunks, setting) for _, chunks in up_to if len(chunks) > 0]
    return all([own - lowered >= late for own in owns])
