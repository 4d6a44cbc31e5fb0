"""Cycleready: modules that are initialized on first use, by many threads, with cycles."""
