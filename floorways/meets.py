"""Meetings among the ways of several carriers."""

from floorways.ways import first_meeting


def meetings(ways):
    found = []
    numbers = sorted(ways)
    for index, one in enumerate(numbers):
        for other in numbers[index + 1:]:
            meeting = first_meeting(ways[one], ways[other])
            if meeting is not None:
                found.append((meeting[0], one, other, meeting[1]))
    return sorted(found)
