"""Blindslots: schedulers that do not know how long a job runs."""
