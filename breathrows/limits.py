"""The bounds that refusals go by."""

MOST = 4096
