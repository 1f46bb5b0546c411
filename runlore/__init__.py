"""Runlore: an engine that learns from its runs for which inputs they would have gone the same way."""
