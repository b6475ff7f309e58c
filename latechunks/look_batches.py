"""Looks at papers that tell how late batches can be."""

from latechunks.batches import BatchBound, BatchEndless, greatest_batched
from latechunks.checks import is_integer
from latechunks.ratios import Ratio


def shows_batched(batched, setting, value):
    """Whether any value is just the BatchBound or the BatchEndless of these batches."""
    found = greatest_batched(batched, setting)
    if isinstance(value, BatchBound):
        kinds_fit = isinstance(value.late, Ratio) and is_integer(value.rest) and is_integer(value.spot)
    else:
        kinds_fit = isinstance(value, BatchEndless) and is_integer(value.spot) and isinstance(value.rise, Ratio)
    return kinds_fit and found == value
