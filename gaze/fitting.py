"""Fitting: known points are told by as few straight pieces as an error allows."""

from gaze.errors import NoGauge
from gaze.gauges import is_rising


def check_points(points):
    if len(points) < 2 or not is_rising([point[0] for point in points]):
        raise NoGauge("two known points or more are needed, rising in raw")


def is_near(start, end, point, error):
    # Both sides are taken times the width, which is above 0: so all numbers stay whole.
    width = end[0] - start[0]
    height = end[1] - start[1]
    aside = (point[1] - start[1]) * width - (point[0] - start[0]) * height
    return abs(aside) <= error * width


def is_free(points, error, start, end):
    return all([is_near(points[start], points[end], point, error) for point in points[start + 1:end]])


def leaps(points, error):
    check_points(points)
    counts = [0]
    for end in range(1, len(points)):
        # The leap from the point just ahead is always free, so there is a least number.
        counts.append(1 + min([counts[start] for start in range(end) if is_free(points, error, start, end)]))
    return counts


def point_ahead(points, error, counts, end):
    nearer = [start for start in range(end) if counts[start] + 1 == counts[end]]
    return min([start for start in nearer if is_free(points, error, start, end)])


def fewest(points, error):
    counts = leaps(points, error)
    falling = [len(points) - 1]
    while falling[-1] != 0:
        falling.append(point_ahead(points, error, counts, falling[-1]))
    return list(reversed(falling))
