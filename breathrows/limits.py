"""The bounds that refusals go by."""

MOST = 4096
# How many bellows a row may come to have by being lengthened.
LONGEST = 12
