"""Lines in a ring, no more than k of which cross two by two."""
